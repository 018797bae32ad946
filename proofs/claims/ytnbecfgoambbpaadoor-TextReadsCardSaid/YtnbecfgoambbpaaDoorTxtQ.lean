/- Plain: what is printed is read, what is read may be. -/
import Derived.Test.YtnbecfgoambbpaaDoorTxtM
import Derived.Test.YtnbecfgoambbpaaDoorTxtP
import Derived.Test.YtnbecfgoambbpaaDoorPlainE
namespace Go.Proofs.YtnbecfgoambbpaaDoor.WPlain

theorem lines_no (l : List UInt8) (h : ∀ c ∈ l, c ≠ 10) : linesOf l = [l] := by
  induction l with
  | nil => rfl
  | cons c r ih => exact linesOf_other c r r [] (h c (by simp)) (ih fun d hd => h d (by simp [hd]))
theorem lineOf_no (l : List UInt8) (h : ∀ c ∈ l, c ≠ 35) : lineOf l = l := by
  induction l with
  | nil => rfl
  | cons x r ih =>
    have hx : (x == 35) = false := by simpa using h x (by simp)
    unfold lineOf at ih ⊢
    rw [List.takeWhile_cons, hx]
    simp only [Bool.not_false, if_true]
    rw [ih fun c hc => h c (by simp [hc])]
theorem take_gap (w R : List UInt8) (hw : ∀ c ∈ w, gap c = false) (hR : R = [] ∨ ∃ R', R = 32 :: R') : (w ++ R).takeWhile (fun c => !gap c) = w := by
  induction w with
  | nil =>
    rcases hR with rfl | ⟨R', rfl⟩
    · rfl
    · simp [gap]
  | cons x r ih =>
    rw [List.cons_append, List.takeWhile_cons, hw x (by simp)]
    simp only [Bool.not_false, if_true]
    rw [ih fun c hc => hw c (by simp [hc])]
theorem wsl_word (p : Nat) (w R : List UInt8) (h0 : w ≠ []) (hw : ∀ c ∈ w, gap c = false) (hR : R = [] ∨ ∃ R', R = 32 :: R') : wsl p none (w ++ R) = (p, p + w.length) :: wsl (p + w.length) none R := by
  cases w with
  | nil => exact absurd rfl h0
  | cons x r =>
    rw [List.cons_append, wsl, hw x (by simp)]
    simp only [Bool.false_eq_true, if_false]
    rw [wsl_open, take_gap r R (fun c hc => hw c (by simp [hc])) hR, List.length_cons, show p + (r.length + 1) = p + 1 + r.length from by omega, List.drop_left]
theorem cutAt_mid (pre w R : List UInt8) : cutAt (pre ++ (w ++ R)) (pre.length, pre.length + w.length) = w := by
  unfold cutAt
  simp
theorem wsl_join : ∀ (ws : List (List UInt8)), (∀ w ∈ ws, w ≠ [] ∧ ∀ c ∈ w, gap c = false) → ∀ pre : List UInt8, (wsl pre.length none (Lib.join ws [32])).map (cutAt (pre ++ Lib.join ws [32])) = ws
  | [], _, pre => by simp [Lib.join_nil, wsl]
  | [w], h, pre => by
    obtain ⟨h0, hw⟩ := h w (by simp)
    have e : Lib.join [w] [32] = w ++ [] := by rw [Lib.join_one]; simp
    rw [e, wsl_word _ _ _ h0 hw (.inl rfl), List.map_cons, cutAt_mid]
    simp [wsl]
  | w :: w2 :: r, h, pre => by
    obtain ⟨h0, hw⟩ := h w (by simp)
    have ih := wsl_join (w2 :: r) (fun x hx => h x (by simp [hx])) (pre ++ (w ++ [32]))
    have e : Lib.join (w :: w2 :: r) [32] = w ++ (32 :: Lib.join (w2 :: r) [32]) := by
      rw [Lib.join_cons, Lib.join_cons]
      simp [Lib.joinTail]
    rw [e, wsl_word _ _ _ h0 hw (.inr ⟨_, rfl⟩), List.map_cons, cutAt_mid]
    congr 1
    rw [wsl]
    simp only [gap]
    simp only [List.length_append, List.length_cons, List.length_nil] at ih
    have e2 : pre ++ (w ++ (32 :: Lib.join (w2 :: r) [32])) = pre ++ (w ++ [32]) ++ Lib.join (w2 :: r) [32] := by simp
    rw [e2, show pre.length + w.length + 1 = pre.length + (w.length + (0 + 1)) from by omega]
    exact ih

theorem dig_no (c : UInt8) (h : isDig c = true ∨ c = 45) : c ≠ 10 ∧ c ≠ 35 ∧ gap c = false := by
  rcases h with h | rfl
  · obtain ⟨h1, h2⟩ := isDig_lo h
    refine ⟨?_, ?_, ?_⟩
    · rintro rfl; simp at h1
    · rintro rfl; simp at h1
    · cases hg : gap c with
      | false => rfl
      | true =>
        simp only [gap, Bool.or_eq_true, beq_iff_eq] at hg
        rcases hg with rfl | rfl <;> simp at h1
  · decide
theorem itoa_chars (n : Int) : Lib.itoa n ≠ [] ∧ ∀ c ∈ Lib.itoa n, isDig c = true ∨ c = 45 := by
  by_cases h0 : n < 0
  · obtain ⟨u, rfl⟩ : ∃ u : Nat, n = -(u : Int) := ⟨n.natAbs, by omega⟩
    rw [Lib.itoa_neg _ (by omega)]
    refine ⟨by simp, fun c hc => ?_⟩
    rcases List.mem_cons.1 hc with rfl | hc
    · exact .inr rfl
    · exact .inl (List.all_eq_true.1 (dec_facts (u + 1) u (by omega)).1 c hc)
  · obtain ⟨u, rfl⟩ : ∃ u : Nat, n = (u : Int) := ⟨n.toNat, by omega⟩
    rw [Lib.itoa_nonneg]
    have hf := dec_facts (u + 1) u (by omega)
    exact ⟨hf.2.2.1, fun c hc => .inl (List.all_eq_true.1 hf.1 c hc)⟩
theorem kword_chars (k : Nat) (hk : k < 10) : kwords.getD k [] ≠ [] ∧ (∀ c ∈ kwords.getD k [], c ≠ 10 ∧ c ≠ 35 ∧ gap c = false) ∧ kindIx (kwords.getD k []) = k := by
  have hc : k = 0 ∨ k = 1 ∨ k = 2 ∨ k = 3 ∨ k = 4 ∨ k = 5 ∨ k = 6 ∨ k = 7 ∨ k = 8 ∨ k = 9 := by omega
  rcases hc with rfl | rfl | rfl | rfl | rfl | rfl | rfl | rfl | rfl | rfl <;> decide
theorem evWords_chars (e : Ev) (he : evOk e = true) : ∀ w ∈ evWords e, w ≠ [] ∧ ∀ c ∈ w, c ≠ 10 ∧ c ≠ 35 ∧ gap c = false := by
  obtain ⟨k, t, v, x⟩ := e
  simp only [evOk, inB, Bool.and_eq_true, decide_eq_true_eq] at he
  have hn : ∀ n : Int, Lib.itoa n ≠ [] ∧ ∀ c ∈ Lib.itoa n, c ≠ 10 ∧ c ≠ 35 ∧ gap c = false := fun n => ⟨(itoa_chars n).1, fun c hc => dig_no c ((itoa_chars n).2 c hc)⟩
  obtain ⟨k0, k1, _⟩ := kword_chars k.toNat (by omega)
  intro w hw
  unfold evWords at hw
  simp only [List.mem_cons, List.mem_append] at hw
  rcases hw with rfl | rfl | hw | hw
  · exact ⟨k0, k1⟩
  · exact hn t
  · split at hw
    · simp at hw; subst hw; exact hn v
    · simp at hw
  · split at hw
    · simp at hw; subst hw; exact hn x
    · simp at hw
def evLine (e : Ev) : List UInt8 := Lib.join (evWords e) [32]
theorem join_chars (P : UInt8 → Prop) (h32 : P 32) : ∀ ws : List (List UInt8), (∀ w ∈ ws, ∀ c ∈ w, P c) → ∀ c ∈ Lib.join ws [32], P c
  | [], _, c, hc => by simp [Lib.join_nil] at hc
  | w :: r, h, c, hc => by
    rw [Lib.join_cons, List.mem_append] at hc
    rcases hc with hc | hc
    · exact h w (by simp) c hc
    · simp only [Lib.joinTail, List.mem_flatten, List.mem_map] at hc
      obtain ⟨l, ⟨w', hw', rfl⟩, hc⟩ := hc
      simp only [List.cons_append, List.nil_append, List.mem_cons] at hc
      rcases hc with rfl | hc
      · exact h32
      · exact h w' (by simp [hw']) c hc
theorem evLine_ln (e : Ev) (he : evOk e = true) : (lnOf (evLine e)).ws = evWords e ∧ (words (lineOf (evLine e))).length = (evWords e).length ∧ (∀ c ∈ evLine e, c ≠ 10) := by
  have hc := evWords_chars e he
  have h10 := join_chars (fun c => c ≠ 10) (by decide) (evWords e) (fun w hw c hcc => ((hc w hw).2 c hcc).1)
  have h35 := join_chars (fun c => c ≠ 35) (by decide) (evWords e) (fun w hw c hcc => ((hc w hw).2 c hcc).2.1)
  have hl : lineOf (evLine e) = evLine e := lineOf_no _ h35
  have hw := wsl_join (evWords e) (fun w hw => ⟨(hc w hw).1, fun c hcc => ((hc w hw).2 c hcc).2.2⟩) []
  have hws : (words (evLine e)).map (cutAt (evLine e)) = evWords e := by simpa [words, evLine] using hw
  refine ⟨?_, ?_, h10⟩
  · simp only [lnOf, hl]; exact hws
  · rw [hl, ← hws, List.length_map]
theorem numOf_itoa (n lo hi : Int) (h1 : -2147483648 ≤ n) (h2 : n ≤ 2147483647) (hb : inB n lo hi = true) : numOf (some (Lib.itoa n)) lo hi = (n, 0) := by
  have hs := spec_itoa n h1 h2
  simp only [numOf, hs, hb]
  simp
theorem evOf_line (e : Ev) (h : List Ev) (he : evOk e = true) (h60 : h.length ≠ 60) (hm : tooMany e.t h = false) : evOf (lnOf (evLine e)) h = (e, 0, 0) := by
  obtain ⟨hws, _, _⟩ := evLine_ln e he
  obtain ⟨k, t, v, x⟩ := e
  have he2 := he
  simp only [evOk, inB, Bool.and_eq_true, decide_eq_true_eq] at he2
  obtain ⟨kk, rfl⟩ : ∃ kk : Nat, k = (kk : Int) := ⟨k.toNat, by omega⟩
  obtain ⟨_, _, hki⟩ := kword_chars kk (by omega)
  obtain ⟨⟨hkb, hv0, hx0⟩, ⟨ht, hv⟩, hx⟩ := he2
  rw [Int.toNat_natCast] at hv0 hx0
  have n1 := numOf_itoa t 0 9999 (by omega) (by omega) (by simp [inB]; omega)
  have n2 := numOf_itoa v 0 7 (by omega) (by omega) (by simp [inB]; omega)
  have n3 := numOf_itoa x (-2147483648) 2147483647 (by omega) (by omega) (by simp [inB]; omega)
  unfold evOf
  rw [if_neg h60]
  unfold evWords at hws
  simp only [Int.toNat_natCast] at hws
  simp only [hws, List.headD_cons, hki]
  rw [if_neg (by omega)]
  unfold numsOf numAt
  rw [hws]
  simp only [List.getElem?_cons_succ, List.getElem?_cons_zero, n1]
  rw [hm]
  cases hbv : hasV kk <;> cases hbx : hasX kk <;> simp_all
theorem evTxt_line (e : Ev) (r : List UInt8) : evTxt e ++ r = evLine e ++ 10 :: r := by rw [← evTxt_join]; simp [evLine]
theorem parseL_print (h : List Ev) : ∀ (b : Nat) (G : List Ev), (G ++ h).length ≤ 60 → (∀ e ∈ h, evOk e = true) → (namesOf (G ++ h)).length ≤ 6 → parseL (linesOf (printTxt h)) b G = (G ++ h, 0, 0) := by
  induction h with
  | nil => intro b G _ _ _; simp [printTxt, linesOf, parseL, lineOf, words, wsl]
  | cons e r ih =>
    intro b G h60 hok h6
    have he := hok e (by simp)
    have e1 : printTxt (e :: r) = evTxt e ++ printTxt r := by simp [printTxt]
    obtain ⟨_, hwl, hno⟩ := evLine_ln e he
    rw [e1, evTxt_line, lines_join, lines_no _ hno, List.singleton_append]
    have hw0 : ¬ (words (lineOf (evLine e))).length = 0 := by rw [hwl]; simp [evWords]
    have hl : G.length ≠ 60 := by
      intro hc
      rw [List.length_append, hc, List.length_cons] at h60
      omega
    have e2 : G ++ e :: r = (G ++ [e]) ++ r := by simp
    have hm : tooMany e.t G = false := by
      apply many_of_names
      rw [e2] at h6
      exact Nat.le_trans (names_mono _ r) h6
    have hev := evOf_line e G he hl hm
    rw [parseL_ok _ _ b G hw0 (by rw [hev]), hev, e2]
    exact ih _ (G ++ [e]) (by rw [← e2]; exact h60) (fun x hx => hok x (by simp [hx])) (by rw [← e2]; exact h6)
theorem parse_print (h : List Ev) (hr : right h = true) : parse (printTxt h) = (h, 0, 0) := by
  simp only [right, Bool.and_eq_true, decide_eq_true_eq] at hr
  have hl := printTxt_len h hr.1.2
  unfold parse
  rw [if_neg (by omega)]
  exact parseL_print h 0 [] (by simpa using hr.1.1) (List.all_eq_true.1 hr.1.2) (by simpa using hr.2)

theorem inB_mk {n lo hi : Int} (h : lo ≤ n ∧ n ≤ hi) : inB n lo hi = true := by simp [inB, h]
theorem numsOf_may (L : Ln) (k : Nat) (h : List Ev) (hk : k < 10) (he : (numsOf L k h).2.2 = 0) : evOk (numsOf L k h).1 = true := by
  have hkb : inB (k : Int) 0 9 = true := inB_mk (by omega)
  have h1 := fun hq => inB_mk (numOf_in L.ws[1]? 0 9999 hq)
  have h2 := fun hq => inB_mk (numOf_in L.ws[2]? 0 7 hq)
  have h3 := fun hq => inB_mk (numOf_in L.ws[3]? (-2147483648) 2147483647 hq)
  have h4 := fun hq => inB_mk (numOf_in L.ws[2]? (-2147483648) 2147483647 hq)
  have z7 : inB 0 0 7 = true := by decide
  have zz : inB 0 (-2147483648) 2147483647 = true := by decide
  unfold numsOf numAt at *
  by_cases e1 : (numOf L.ws[1]? 0 9999).2 = 0
  · rw [if_neg (by simpa using e1)] at he ⊢
    cases hm : tooMany (numOf L.ws[1]? 0 9999).1 h with
    | true => rw [hm, if_pos rfl] at he; simp at he
    | false =>
      rw [hm, if_neg (by simp)] at he
      rw [if_neg (by simp)]
      cases hv : hasV k with
      | true =>
        rw [hv, if_pos rfl] at he
        rw [if_pos rfl]
        by_cases e2 : (numOf L.ws[2]? 0 7).2 = 0
        · rw [if_neg (by simpa using e2)] at he ⊢
          cases hx : hasX k with
          | true =>
            rw [hx, if_pos rfl] at he
            rw [if_pos rfl]
            by_cases e3 : (numOf L.ws[3]? (-2147483648) 2147483647).2 = 0
            · rw [if_neg (by simpa using e3)]
              simp [evOk, hkb, hv, hx, h1 e1, h2 e2, h3 e3]
            · rw [if_pos e3] at he; exact absurd he e3
          | false =>
            rw [if_neg (by simp)]
            simp [evOk, hkb, hv, hx, h1 e1, h2 e2, zz]
        · rw [if_pos e2] at he; exact absurd he e2
      | false =>
        rw [hv, if_neg (by simp)] at he
        rw [if_neg (by simp)]
        cases hx : hasX k with
        | true =>
          rw [hx, if_pos rfl] at he
          rw [if_pos rfl]
          by_cases e3 : (numOf L.ws[2]? (-2147483648) 2147483647).2 = 0
          · rw [if_neg (by simpa using e3)]
            simp [evOk, hkb, hv, hx, h1 e1, h4 e3, z7]
          · rw [if_pos e3] at he; exact absurd he e3
        | false =>
          rw [if_neg (by simp)]
          simp [evOk, hkb, hv, hx, h1 e1, z7, zz]
  · rw [if_pos e1] at he; exact absurd he e1
theorem right_snoc (L : Ln) (h : List Ev) (hr : right h = true) (he : (evOf L h).2.2 = 0) : right (h ++ [(evOf L h).1]) = true := by
  have hm := evOf_many L h he
  obtain ⟨h60, hk, h0, _, hev⟩ := evOf_ok L h he
  have hkl := kindIx_le (L.ws.headD [])
  have hok := numsOf_may L _ h (by omega) h0
  simp only [right, Bool.and_eq_true, decide_eq_true_eq] at hr ⊢
  refine ⟨⟨by rw [List.length_append, List.length_cons, List.length_nil]; omega, ?_⟩, names_of_many h _ hr.2 hm⟩
  rw [List.all_append, hr.1.2, hev]
  show (true && ([(numsOf L (kindIx (L.ws.headD [])) h).1].all evOk)) = true
  rw [List.all_cons, hok]
  rfl
theorem parseL_right (ls : List (List UInt8)) : ∀ (b : Nat) (h : List Ev), right h = true → (parseL ls b h).2.2 = 0 → right (parseL ls b h).1 = true := by
  induction ls with
  | nil => intro b h hr _; exact hr
  | cons p r ih =>
    intro b h hr he
    by_cases hw : (words (lineOf p)).length = 0
    · rw [parseL_skip p r b h hw] at he ⊢; exact ih _ _ hr he
    · by_cases h0 : (evOf (lnOf p) h).2.2 = 0
      · rw [parseL_ok p r b h hw h0] at he ⊢; exact ih _ _ (right_snoc _ _ hr h0) he
      · rw [parseL_err p r b h hw h0] at he; exact absurd he h0
theorem parse_right (s : List UInt8) (h : (parse s).2.2 = 0) : right (parse s).1 = true := by
  unfold parse at *
  split
  · rename_i h3; rw [if_pos h3] at h; simp at h
  · rename_i h3; rw [if_neg h3] at h; exact parseL_right _ _ _ (by decide) h
end Go.Proofs.YtnbecfgoambbpaaDoor.WPlain
