/- The reference's body, whatever it meets. -/
import Derived.Test.YtgdijlmfpboecaaDoorBinX
namespace Go.Proofs.YtgdijlmfpboecaaDoor.WPlain
end Go.Proofs.YtgdijlmfpboecaaDoor.WPlain
namespace Go.Proofs.YtgdijlmfpboecaaDoor.VPlain
end Go.Proofs.YtgdijlmfpboecaaDoor.VPlain
namespace Go.Proofs.YtgdijlmfpboecaaDoor
open Go.RowKit WPlain VPlain BPlain

/-- what body, and event, answer: the fault; or the event, and the place behind it -/
def RbE (w : World) (h : List Ev) (s : List Ev × Nat × Nat) (e : Ending) (w' : World) : Prop :=
  (s.2.2 ≠ 0 → BadR w s.2.1 s.2.2 e w') ∧ (s.2.2 = 0 → ∃ ev, s.1 = h ++ [ev] ∧ FineR w s.2.1 ev e w')
theorem RbE.bad {w : World} {h g : List Ev} {p er : Nat} {e : Ending} {w' : World} (h0 : er ≠ 0) (hb : BadR w p er e w') : RbE w h (g, p, er) e w' := ⟨fun _ => hb, fun hc => absurd hc h0⟩
theorem upS_none {L : List Nat} {i m b : Nat} (h : (upS L i m b).2.2 ≠ 0) : (upS L i m b).1 = 0 := by
  unfold upS at *
  split
  · rfl
  · rename_i h1
    rw [if_neg h1] at h
    exact getL_bad _ 0 h
theorem mostS_most {L : List Nat} {s : Nat × Nat × Nat} {m M : Nat} (h : s.1 ≤ M) (hm : m ≤ M) : (mostS L s m).1 ≤ M := by
  unfold mostS
  split
  · by_cases h0 : (upS L s.2.1 m 3).2.2 = 0
    · exact Nat.le_trans (upS_most h0 (by decide)) hm
    · rw [upS_none h0]; exact Nat.zero_le _
  · exact h
theorem mostS_lt {L : List Nat} (hb : ∀ x ∈ L, x < 256) {s : Nat × Nat × Nat} {m : Nat} (h : s.1 < 18446744073709551616) : (mostS L s m).1 < 18446744073709551616 := by
  unfold mostS
  split
  · unfold upS
    split
    · show 0 < 18446744073709551616; decide
    · exact numS_lt hb _
  · exact h
theorem mostS_end {L : List Nat} {s : Nat × Nat × Nat} {m : Nat} (h : s.2.1 ≤ L.length) : (mostS L s m).2.1 ≤ L.length := by
  unfold mostS
  split
  · exact (upS_le m 3 h).2
  · exact h
theorem rbody_any (B : Nat) (a ha : Option Addr) (c hc : Nat) (L : List Nat) (h : List Ev) (i en hn : Nat) (w : World) (hB : Bin B w a c L) (hBw : B ≤ w.heap.size) (hen : en ≤ L.length) (hi : i < en)
    (hE : Evs w (.slice ha hn hc) h) (hr : right h = true) (hhl : h.length ≤ 59) :
    Calls Tryd.prog 15 #[.slice a L.length c, .int .i64 i, .int .i64 en, .slice ha hn hc] w (RbE w h (bodyS (L.take en) i h)) := by
  have hL := hB.small
  have hb : ∀ x ∈ L.take en, x < 256 := fun x hx => hB.byte x (List.mem_of_mem_take hx)
  have htl : (L.take en).length = en := by rw [List.length_take]; omega
  obtain ⟨k, hk⟩ : ∃ k, L[i]'(by omega) = k := ⟨_, rfl⟩
  have hgd : (L.take en).getD i 0 = k := by
    rw [List.getD_eq_getElem?_getD, List.getElem?_take_of_lt hi, List.getElem?_eq_getElem (by omega)]; exact hk
  by_cases h10 : 10 ≤ k
  · have he : bodyS (L.take en) i h = (h, i, 2) := by unfold bodyS; rw [if_pos (by rw [hgd]; exact h10)]
    rw [he]
    exact (rbody_kind B a ha c hc L i en k hn w hB hBw hen hi hk h10).mono fun e w' hp => RbE.bad (by decide) hp
  · rw [bodyS_most hr hhl (by rw [hgd]; omega), hgd]
    have hM := fun W (hW : Below w.heap.size w W) => rmost_any B a c L 0 (i + 1) 0 en 9999 W (hB.below (hW.mono hBw)) (Nat.le_trans hBw hW.size) hen (by omega)
    have hs0 : mostS (L.take en) (0, i + 1, 0) 9999 = upS (L.take en) (i + 1) 9999 3 := by unfold mostS; exact if_pos rfl
    rw [hs0] at hM
    have ht : (upS (L.take en) (i + 1) 9999 3).1 ≤ 9999 := by
      by_cases h0 : (upS (L.take en) (i + 1) 9999 3).2.2 = 0
      · exact upS_most h0 (by decide)
      · rw [upS_none h0]; exact Nat.zero_le _
    have hp1 : (upS (L.take en) (i + 1) 9999 3).2.1 ≤ (L.take en).length := (upS_le 9999 3 (by omega)).2
    generalize hs1 : upS (L.take en) (i + 1) 9999 3 = s1 at *
    obtain ⟨t, p, e1⟩ := s1
    dsimp only at ht hp1
    have hM' : ∀ W, Below w.heap.size w W → Calls Tryd.prog 19 #[.slice a L.length c, .agg #[.int .u64 0, .int .i64 ((i : Int) + 1), .int .i64 0], .int .i64 en, .int .u64 9999] W fun e w' => e = .returned (.agg #[.int .u64 t, .int .i64 p, .int .i64 e1]) ∧ Below W.heap.size W w' := by
      intro W hW
      have := hM W hW
      simpa [nv] using this
    by_cases hf : e1 = 0 ∧ fullS (t : Int) h = true
    · obtain ⟨rfl, hf⟩ := hf
      rw [if_pos ⟨rfl, hf⟩]
      exact (rbody_full B a ha c hc L h i en k hn t p w hB hBw hen hi hk (by omega) hL hE (by omega) ht hf hM').mono fun e w' hp => RbE.bad (by decide) hp
    · rw [if_neg (by simpa using hf)]
      have hv1 : (varS (L.take en) k (t, p, e1)).1 ≤ 9999 := by
        unfold varS
        split
        · exact mostS_most ht (by decide)
        · exact ht
      have hp2 : (varS (L.take en) k (t, p, e1)).2.1 ≤ (L.take en).length := by
        unfold varS
        split
        · exact mostS_end hp1
        · exact hp1
      have hMv : if hasV k = true then ∀ W, Below w.heap.size w W → Calls Tryd.prog 19 #[.slice a L.length c, .agg #[.int .u64 t, .int .i64 p, .int .i64 e1], .int .i64 en, .int .u64 7] W fun e w' => e = .returned (nv (varS (L.take en) k (t, p, e1))) ∧ Below W.heap.size W w' else varS (L.take en) k (t, p, e1) = (t, p, e1) := by
        split
        · rename_i hV
          intro W hW
          unfold varS
          rw [if_pos hV]
          exact rmost_any B a c L t p e1 en 7 W (hB.below (hW.mono hBw)) (Nat.le_trans hBw hW.size) hen (by omega)
        · rename_i hV
          unfold varS
          rw [if_neg hV]
      generalize varS (L.take en) k (t, p, e1) = s2 at *
      obtain ⟨v, p2, e2⟩ := s2
      dsimp only at hv1 hp2
      have hx1 : (valuS (L.take en) k (v, p2, e2)).1 < 18446744073709551616 := by
        unfold valuS
        split
        · exact mostS_lt hb (by dsimp only; omega)
        · dsimp only; omega
      have hMx : if hasX k = true then ∀ W, Below w.heap.size w W → Calls Tryd.prog 24 #[.slice a L.length c, .agg #[.int .u64 v, .int .i64 p2, .int .i64 e2], .int .i64 en] W fun e w' => e = .returned (nv (valuS (L.take en) k (v, p2, e2))) ∧ Below W.heap.size W w' else valuS (L.take en) k (v, p2, e2) = (v, p2, e2) := by
        split
        · rename_i hX
          intro W hW
          unfold valuS
          rw [if_pos hX]
          exact rsign_any B a c L v p2 e2 en W (hB.below (hW.mono hBw)) (Nat.le_trans hBw hW.size) hen (by omega) (by omega)
        · rename_i hX
          unfold valuS
          rw [if_neg hX]
      have hp3 : (valuS (L.take en) k (v, p2, e2)).2.1 ≤ (L.take en).length := by
        unfold valuS
        split
        · exact mostS_end hp2
        · exact hp2
      generalize valuS (L.take en) k (v, p2, e2) = s3 at *
      obtain ⟨x, p3, e3⟩ := s3
      dsimp only at hx1 hp3 ⊢
      refine (rbody_rest B a ha c hc L h i en k hn t p e1 v p2 e2 x p3 e3 w hB hBw hen hi hk (by omega) hL hE (by omega) ht hv1 hx1 hf hM' hMv hMx).mono ?_
      rintro e w' ⟨ha1, ha2, ha3⟩
      by_cases h0 : e3 = 0
      · subst h0
        rw [if_neg (by simp)]
        by_cases hp : p3 = en
        · subst hp
          have hz : (if p3 < (L.take p3).length then 2 else 0 : Nat) = 0 := if_neg (by rw [htl]; omega)
          rw [hz]
          refine ⟨fun hc => absurd rfl hc, fun _ => ⟨_, rfl, ?_⟩⟩
          have := ha3 rfl rfl
          cases hV : hasV k <;> cases hX : hasX k <;> simpa [hV, hX] using this
        · have hz : (if p3 < (L.take en).length then 2 else 0 : Nat) = 2 := if_pos (by rw [htl] at *; omega)
          rw [hz]
          exact RbE.bad (by decide) (ha2 rfl hp)
      · rw [if_pos h0]
        exact RbE.bad h0 (ha1 h0)
end Go.Proofs.YtgdijlmfpboecaaDoor
