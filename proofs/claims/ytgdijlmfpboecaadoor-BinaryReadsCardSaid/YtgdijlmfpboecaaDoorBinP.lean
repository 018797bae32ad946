/- Plain words: what is read may be; what is printed is read; what is read, printed, is those bytes. -/
import Derived.Test.YtgdijlmfpboecaaDoorBinA
namespace Go.Proofs.YtgdijlmfpboecaaDoor.WPlain
end Go.Proofs.YtgdijlmfpboecaaDoor.WPlain
namespace Go.Proofs.YtgdijlmfpboecaaDoor.VPlain
end Go.Proofs.YtgdijlmfpboecaaDoor.VPlain
namespace Go.Proofs.YtgdijlmfpboecaaDoor.BPlain
open WPlain VPlain

theorem right_iff (h : List Ev) : right h = true ↔ h.length ≤ 60 ∧ (∀ e ∈ h, evOk e = true) ∧ (namesOf h).length ≤ 6 := by
  simp only [right, Bool.and_eq_true, decide_eq_true_eq, List.all_eq_true, and_assoc]
theorem right_swap {h : List Ev} {e f : Ev} (hf : f.t = e.t) (he : evOk f = true) (hr : right (h ++ [e]) = true) : right (h ++ [f]) = true := by
  rw [right_iff] at hr ⊢
  obtain ⟨h1, h2, h3⟩ := hr
  refine ⟨by simpa using h1, fun x hx => ?_, ?_⟩
  · rcases List.mem_append.1 hx with hx | hx
    · exact h2 x (List.mem_append_left _ hx)
    · rw [List.mem_singleton.1 hx]; exact he
  · rw [namesOf_snoc] at h3 ⊢
    rw [hf]; exact h3
theorem evOk_mk {k t v : Nat} {x : Int} (hk : k < 10) (ht : t ≤ 9999) (hv : v ≤ 7) (hx : -2147483648 ≤ x ∧ x ≤ 2147483647) (hV : hasV k = false → v = 0) (hX : hasX k = false → x = 0) : evOk ⟨k, t, v, x⟩ = true := by
  simp only [evOk, inB, Bool.and_eq_true, Bool.or_eq_true, decide_eq_true_eq, beq_iff_eq, Int.toNat_natCast]
  refine ⟨⟨⟨by omega, by omega⟩, ?_, ?_⟩, ⟨⟨by omega, by omega⟩, by omega, by omega⟩, hx.1, hx.2⟩
  · cases h : hasV k with
    | true => exact .inl rfl
    | false => exact .inr (by have := hV h; omega)
  · cases h : hasX k with
    | true => exact .inl rfl
    | false => exact .inr (hX h)
theorem zag_range {n : Nat} (h : n ≤ 4294967295) : -2147483648 ≤ zagI n ∧ zagI n ≤ 2147483647 := by unfold zagI; split <;> omega
theorem zag_out {n : Nat} (h : 4294967295 < n) : zagI n < -2147483648 ∨ 2147483647 < zagI n := by unfold zagI; split <;> omega
theorem nameS_right {L : List Nat} {i : Nat} {h : List Ev} (he : (nameS L i h).2.2 = 0) : right (h ++ [⟨0, ((nameS L i h).1 : Nat), 0, 0⟩]) = true ∧ nameS L i h = upS L i 9999 3 := by
  unfold nameS at *
  split at he
  · rename_i h1; exact absurd he h1
  · rename_i h1
    rw [if_neg h1]
    split at he
    · rename_i h2
      rw [if_pos h2]
      exact ⟨h2, rfl⟩
    · simp at he
theorem upS_ok {L : List Nat} {i m b : Nat} (h : (upS L i m b).2.2 = 0) (hb : b ≠ 0) : upS L i m b = numS L i ∧ (numS L i).1 ≤ m := by
  unfold upS at *
  split at h
  · exact absurd h hb
  · rename_i h1
    rw [if_neg h1]
    refine ⟨rfl, ?_⟩
    have : ¬ m < (numS L i).1 := fun hh => h1 ⟨h, hh⟩
    omega
theorem numS_bytes {L : List Nat} (hb : ∀ x ∈ L, x < 256) {i : Nat} (h : (numS L i).2.2 = 0) : L.drop i = nb (numS L i).1 ++ L.drop (numS L i).2.1 := by
  have h1 := (nb_getL (L.drop i) (fun c hc => hb c (List.mem_of_mem_drop hc)) 0 h).1
  show L.drop i = nb (getL 0 (L.drop i)).1 ++ L.drop (i + (getL 0 (L.drop i)).2.1)
  rw [h1, ← List.drop_drop]
  exact (List.take_append_drop _ _).symm
/-- an event is read: its bytes, and it may be -/
theorem numsS_ok {L : List Nat} (hb : ∀ x ∈ L, x < 256) {i k : Nat} {h : List Ev} (hk : k < 10) (he : (numsS L i k h).2.2 = 0) :
    right (h ++ [(numsS L i k h).1]) = true ∧ (numsS L i k h).1.k = k ∧ k :: L.drop i = bodyB (numsS L i k h).1 ++ L.drop (numsS L i k h).2.1 := by
  have hz := he
  unfold numsS at he ⊢
  by_cases h1 : (nameS L i h).2.2 = 0
  · obtain ⟨hr, hu⟩ := nameS_right h1
    have hm := nameS_most h1
    have hn := numS_bytes hb (i := i) (by rw [hu] at h1; rw [← (upS_ok h1 (by decide)).1]; exact h1)
    have hue : nameS L i h = numS L i := by rw [hu] at h1 ⊢; exact (upS_ok h1 (by decide)).1
    rw [← hue] at hn
    rw [if_neg (fun hh => hh h1)] at he ⊢
    generalize nameS L i h = N at *
    obtain ⟨t, i1, e1⟩ := N
    dsimp only at *
    cases hV : hasV k with
    | true =>
      rw [hV, if_pos rfl] at he
      rw [if_pos rfl]
      by_cases h2 : (upS L i1 7 3).2.2 = 0
      · obtain ⟨hu2, hm2⟩ := upS_ok h2 (by decide)
        have hn2 := numS_bytes hb (i := i1) (by rw [← hu2]; exact h2)
        rw [if_neg (fun hh => hh h2)] at he ⊢
        rw [hu2] at he ⊢
        rw [← hu2] at hm2
        rw [hu2] at hm2
        generalize numS L i1 = N2 at *
        obtain ⟨v, i2, e2⟩ := N2
        dsimp only at *
        cases hX : hasX k with
        | true =>
          rw [hX, if_pos rfl] at he
          rw [if_pos rfl]
          by_cases h3 : (valS L i2).2.2 = 0
          · obtain ⟨hu3, hm3⟩ := upS_ok (L := L) (i := i2) (m := 4294967295) (b := 3) h3 (by decide)
            have hn3 := numS_bytes hb (i := i2) (by rw [← hu3]; exact h3)
            rw [if_neg (fun hh => hh h3)]
            have hval : valS L i2 = numS L i2 := hu3
            rw [hval]
            generalize numS L i2 = N3 at *
            obtain ⟨x, i3, e3⟩ := N3
            dsimp only at *
            refine ⟨right_swap (e := ⟨0, (t : Nat), 0, 0⟩) rfl (evOk_mk hk hm hm2 (zag_range hm3) (fun hh => by rw [hV] at hh; cases hh) (fun hh => by rw [hX] at hh; cases hh)) hr, rfl, ?_⟩
            rw [hn, hn2, hn3]
            simp [bodyB, hV, hX, zig_zag]
          · rw [if_pos h3] at he
            exact absurd he h3
        | false =>
          rw [if_neg (by decide)]
          refine ⟨right_swap (e := ⟨0, (t : Nat), 0, 0⟩) rfl (evOk_mk hk hm hm2 ⟨by omega, by omega⟩ (fun hh => by rw [hV] at hh; cases hh) (fun _ => rfl)) hr, rfl, ?_⟩
          rw [hn, hn2]
          simp [bodyB, hV, hX]
      · rw [if_pos h2] at he
        exact absurd he h2
    | false =>
      rw [hV, if_neg (by decide)] at he
      rw [if_neg (by decide)]
      cases hX : hasX k with
      | true =>
        rw [hX, if_pos rfl] at he
        rw [if_pos rfl]
        by_cases h3 : (valS L i1).2.2 = 0
        · obtain ⟨hu3, hm3⟩ := upS_ok (L := L) (i := i1) (m := 4294967295) (b := 3) h3 (by decide)
          have hn3 := numS_bytes hb (i := i1) (by rw [← hu3]; exact h3)
          rw [if_neg (fun hh => hh h3)]
          have hval : valS L i1 = numS L i1 := hu3
          rw [hval]
          generalize numS L i1 = N3 at *
          obtain ⟨x, i3, e3⟩ := N3
          dsimp only at *
          refine ⟨right_swap (e := ⟨0, (t : Nat), 0, 0⟩) rfl (evOk_mk (v := 0) hk hm (by omega) (zag_range hm3) (fun _ => rfl) (fun hh => by rw [hX] at hh; cases hh)) hr, rfl, ?_⟩
          rw [hn, hn3]
          simp [bodyB, hV, hX, zig_zag]
        · rw [if_pos h3] at he
          exact absurd he h3
      | false =>
        rw [if_neg (by decide)]
        refine ⟨right_swap (e := ⟨0, (t : Nat), 0, 0⟩) rfl (evOk_mk (v := 0) (x := 0) hk hm (by omega) ⟨by omega, by omega⟩ (fun _ => rfl) (fun _ => rfl)) hr, rfl, ?_⟩
        rw [hn]
        simp [bodyB, hV, hX]
  · rw [if_pos h1] at he
    exact absurd he h1
theorem bodyS_ok {L : List Nat} (hb : ∀ x ∈ L, x < 256) {i : Nat} {h : List Ev} (hi : i < L.length) (he : (bodyS L i h).2.2 = 0) :
    ∃ e, (bodyS L i h).1 = h ++ [e] ∧ right (h ++ [e]) = true ∧ L.drop i = bodyB e ∧ (bodyS L i h).2.1 = L.length := by
  have hg : L.getD i 0 = L[i] := by simp [hi]
  have hd : L.drop i = L[i] :: L.drop (i + 1) := List.drop_eq_getElem_cons hi
  unfold bodyS at he ⊢
  rw [hg] at he ⊢
  by_cases h10 : 10 ≤ L[i]
  · rw [if_pos h10] at he
    simp at he
  · rw [if_neg h10] at he ⊢
    by_cases h0 : (numsS L (i + 1) L[i] h).2.2 = 0
    · rw [if_neg (fun hh => hh h0)] at he ⊢
      obtain ⟨h1, _, h3⟩ := numsS_ok hb (i := i + 1) (k := L[i]) (h := h) (by omega) h0
      have hle := numsS_le L[i] h (show i + 1 ≤ L.length from hi)
      dsimp only at he
      split at he
      · simp at he
      · rename_i hn
        refine ⟨_, rfl, h1, ?_, by show (numsS L (i + 1) L[i] h).2.1 = _; omega⟩
        rw [hd, h3, List.drop_eq_nil_of_le (by omega), List.append_nil]
    · rw [if_pos h0] at he
      exact absurd he h0
theorem eventS_ok {L : List Nat} (hb : ∀ x ∈ L, x < 256) {i : Nat} {h : List Ev} (hi : i ≤ L.length) (he : (eventS L i h).2.2 = 0) :
    ∃ e, (eventS L i h).1 = h ++ [e] ∧ right (h ++ [e]) = true ∧ L.drop i = evB e ++ L.drop (eventS L i h).2.1 := by
  have hle := numS_le hi
  unfold eventS at he ⊢
  by_cases h0 : (numS L i).2.2 = 0
  · have hn := numS_bytes hb h0
    rw [if_neg (fun hh => hh h0)] at he ⊢
    generalize numS L i = N at *
    obtain ⟨n, i1, er⟩ := N
    dsimp only at *
    by_cases h1 : L.length - i1 < n
    · rw [if_pos h1] at he; simp at he
    · rw [if_neg h1] at he ⊢
      by_cases h2 : n = 0
      · rw [if_pos h2] at he; simp at he
      · rw [if_neg h2] at he ⊢
        have hl : (L.take (i1 + n)).length = i1 + n := by rw [List.length_take]; omega
        obtain ⟨e, a1, a2, a3, a4⟩ := bodyS_ok (fun x hx => hb x (List.mem_of_mem_take hx)) (h := h) (show i1 < (L.take (i1 + n)).length by omega) he
        refine ⟨e, a1, a2, ?_⟩
        rw [a4, hl, hn]
        rw [List.drop_take, show i1 + n - i1 = n from by omega] at a3
        have hbl : (bodyB e).length = n := by rw [← a3, List.length_take, List.length_drop]; omega
        have h4 : L.drop i1 = bodyB e ++ L.drop (i1 + n) := by rw [← a3, ← List.drop_drop]; exact (List.take_append_drop n (L.drop i1)).symm
        unfold evB
        rw [h4, hbl, List.append_assoc]
  · rw [if_pos h0] at he
    exact absurd he h0
theorem eventsS_ok {L : List Nat} (hb : ∀ x ∈ L, x < 256) : ∀ (n i : Nat) (h : List Ev), i ≤ L.length → right h = true → (eventsS L n i h).2.2 = 0 →
    ∃ g, (eventsS L n i h).1 = h ++ g ∧ g.length = n ∧ right (h ++ g) = true ∧ L.drop i = g.flatMap evB := by
  intro n
  induction n with
  | zero =>
    intro i h hi hr he
    refine ⟨[], by simp [eventsS], rfl, by simpa using hr, ?_⟩
    have h1 : ¬ i < L.length := by
      intro hh
      simp [eventsS, hh] at he
    simp [List.drop_eq_nil_of_le (show L.length ≤ i by omega)]
  | succ n ih =>
    intro i h hi hr he
    unfold eventsS at he ⊢
    by_cases h0 : (eventS L i h).2.2 = 0
    · rw [if_neg (fun hh => hh h0)] at he ⊢
      obtain ⟨e, a1, a2, a3⟩ := eventS_ok hb hi h0
      have hle := eventS_le h hi
      rw [a1] at he ⊢
      obtain ⟨g, b1, b2, b3, b4⟩ := ih _ _ hle.2 a2 he
      refine ⟨e :: g, by rw [b1]; simp, by simp [b2], by rw [List.append_assoc] at b3; exact b3, ?_⟩
      rw [a3, b4]; simp
    · rw [if_pos h0] at he
      exact absurd he h0
/-- what is read may be, and, printed, is those bytes -/
theorem parseB_ok {L : List Nat} (hb : ∀ x ∈ L, x < 256) (he : (parseB L).2.2 = 0) : right (parseB L).1 = true ∧ printB (parseB L).1 = L := by
  by_cases hz : (readS L).2.2 = 0
  · have e1 : parseB L = ((readS L).1, 0, 0) := by unfold parseB; rw [if_neg (fun hh => hh hz)]
    rw [e1]
    dsimp only
    unfold readS at hz ⊢
    by_cases h0 : (upS L 0 60 5).2.2 = 0
    · rw [if_neg (fun hh => hh h0)] at hz ⊢
      obtain ⟨hu, _⟩ := upS_ok h0 (by decide)
      rw [hu] at h0 hz ⊢
      have hn := numS_bytes hb h0
      have hle := numS_le (L := L) (Nat.zero_le L.length)
      obtain ⟨g, b1, b2, b3, b4⟩ := eventsS_ok hb _ _ [] hle.2 (by decide) hz
      rw [b1]
      simp only [List.nil_append] at b3 ⊢
      refine ⟨b3, ?_⟩
      rw [List.drop_zero] at hn
      unfold printB
      rw [b2, ← b4, ← hn]
    · rw [if_pos h0] at hz
      exact absurd hz h0
  · exfalso
    unfold parseB at he
    rw [if_pos hz] at he
    exact hz he

end Go.Proofs.YtgdijlmfpboecaaDoor.BPlain
