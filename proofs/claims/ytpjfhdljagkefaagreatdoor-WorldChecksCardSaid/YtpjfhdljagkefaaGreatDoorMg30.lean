/- Merged: OpenTx, OpenFe, OpenWd. -/
import Derived.Test.YtpjfhdljagkefaaGreatDoorMg27
import Derived.Test.YtpjfhdljagkefaaGreatDoorMg3
import Derived.Test.YtpjfhdljagkefaaGreatDoorMg12
import Derived.Test.YtpjfhdljagkefaaGreatDoorMg20
import Derived.Carry
import Derived.Deep.Slices
import Derived.Deep.Fields
import Derived.ChangeSame
import Derived.ProofKit
import Derived.ChangeSlices
/- Transactions among the arguments, as they are read. -/
namespace Go.Proofs.YtpjfhdljagkefaaGreatDoor.WPlain
end Go.Proofs.YtpjfhdljagkefaaGreatDoor.WPlain
namespace Go.Proofs.YtpjfhdljagkefaaGreatDoor.RPlain
end Go.Proofs.YtpjfhdljagkefaaGreatDoor.RPlain
namespace Go.Proofs.YtpjfhdljagkefaaGreatDoor
open Go.ChangeShapes Go.WideShapes Go.ChangeAt Go.RowKit
open Go.Deep WPlain RPlain

/-- a slice of elements of k cells, each of which reads as f of something: its first elements -/
theorem rows_read {α : Type} {H : Type} {enc : TypeId × Value → H} {w : World} {base : Nat} {sp : Nat → Bool} {held : Bool} {fuel : Nat} {t e : TypeId} {k : Nat} {f : α → List Value} {Q : α → Prop} {v : Value} {x : DataW H × List MemPlace}
    (ht : Tryz.prog.underlying t = some (.slice e)) (hk : Tryz.prog.cellsOf e = k) (hk0 : 0 < k) (hf : ∀ x, (f x).length = k)
    (hone : ∀ fuel cs y, DataW.trod enc Tryz.prog w base sp held fuel e cs = some y → ∃ x, cs = f x ∧ Q x)
    (h : DataW.trod enc Tryz.prog w base sp held fuel t [v] = some x) :
    ∃ (a : Option Addr) (n c : Nat), v = .slice a n c ∧ n ≤ c ∧ c ≤ maxLen ∧ (a = none → c = 0) ∧ ∀ m, m ≤ n → ∃ L : List α, L.length = m ∧ Rws k f w (.slice a m c) L ∧ ∀ x ∈ L, Q x := by
  rcases open_slice ht h with ⟨hc, _⟩ | ⟨a', len', cap', m', nn, D, Pl, hc, _, hle, hcm, hm, _, hi⟩
  · simp only [List.cons.injEq, and_true] at hc
    subst hc
    exact ⟨none, 0, 0, rfl, Nat.le_refl _, by unfold maxLen; omega, fun _ => rfl, fun m hm => ⟨[], by simp; omega, by rw [show m = 0 from by omega]; exact Rws.nil _ _ _, fun _ h => (List.not_mem_nil h).elim⟩⟩
  · simp only [List.cons.injEq, and_true] at hc
    subst hc
    refine ⟨some a', len', cap', rfl, hle, hcm, (fun hh => by cases hh), fun m hml => ?_⟩
    have hml2 : len' ≤ m' := by rw [hm]; split <;> omega
    have hev : ∀ i, i < m → ∃ x : α, Q x ∧ ∀ j, j < k → w.cell? ((a'.add (i * k)).add j) = (f x)[j]? := by
      intro i hik
      obtain ⟨cs', h1, h2⟩ := hi i (by omega)
      rw [hk] at h1
      obtain ⟨x, rfl, hq⟩ := hone _ _ _ h2
      obtain ⟨_, _, hat⟩ := World.cells?_some h1
      refine ⟨x, hq, fun j hj => ?_⟩
      have := hat j hj
      rw [this, List.getElem?_eq_getElem (by rw [hf]; exact hj)]
    have hE : ∃ E : List α, E.length = m ∧ (∀ x ∈ E, Q x) ∧ ∀ i (h : i < E.length) j, j < k → w.cell? ((a'.add (i * k)).add j) = (f E[i])[j]? := by
      clear hml hml2
      induction m with
      | zero => exact ⟨[], rfl, fun _ h => (List.not_mem_nil h).elim, fun i h => absurd h (Nat.not_lt_zero _)⟩
      | succ m ih =>
        obtain ⟨E, hEl, hEq, hE⟩ := ih (fun i hik => hev i (by omega))
        obtain ⟨e, hq, he⟩ := hev m (by omega)
        refine ⟨E ++ [e], by simp [hEl], fun x hx => ?_, fun i h j hj => ?_⟩
        · rcases List.mem_append.1 hx with hx | hx
          · exact hEq x hx
          · rw [List.mem_singleton.1 hx]; exact hq
        · by_cases hik : i < E.length
          · rw [List.getElem_append_left hik]; exact hE i hik j hj
          · have : i = m := by simp at h; omega
            subst this
            rw [List.getElem_append_right (by omega)]
            simp only [hEl, Nat.sub_self, List.getElem_cons_zero]
            exact he j hj
    obtain ⟨E, hEl, hEq, hE⟩ := hE
    refine ⟨E, hEl, ?_, hEq⟩
    by_cases h0 : 0 < E.length
    · obtain ⟨b, o, spot⟩ := a'
      have hc00 := hE 0 h0 0 hk0
      rw [List.getElem?_eq_getElem (by rw [hf]; exact hk0)] at hc00
      have hspot : spot = none := by
        have h1 := World.cell?_spot hc00
        simpa [Addr.add] using h1
      subst hspot
      have hb : b < w.heap.size := by
        have h1 := World.block_lt_of_cell? w _ hc00
        simpa [Addr.add] using h1
      refine .inr ⟨h0, b, o, cap', by rw [hEl], hb, fun i hi j u hj hu => ?_⟩
      have := hE i hi j hj
      rw [addr_plus, addr_plus, hu] at this
      exact this
    · have h00 : E = [] := List.length_eq_zero_iff.1 (by omega)
      subst h00
      simp at hEl
      subst hEl
      exact Rws.nil _ _ _
end Go.Proofs.YtpjfhdljagkefaaGreatDoor
/- A finding's cells among the arguments, its whole row read. -/
namespace Go.Proofs.YtpjfhdljagkefaaGreatDoor.WPlain
end Go.Proofs.YtpjfhdljagkefaaGreatDoor.WPlain
namespace Go.Proofs.YtpjfhdljagkefaaGreatDoor.RPlain
end Go.Proofs.YtpjfhdljagkefaaGreatDoor.RPlain
namespace Go.Proofs.YtpjfhdljagkefaaGreatDoor
open Go.ChangeShapes Go.WideShapes Go.ChangeAt Go.RowKit
open Go.Deep WPlain RPlain

set_option maxRecDepth 100000 in
theorem ints_whole {H : Type} {enc : TypeId × Value → H} {w : World} {base : Nat} {sp : Nat → Bool} {held : Bool} {fuel : Nat} {u : Value} {y : DataW H × List MemPlace} (hf : DataW.trod enc Tryz.prog w base sp held fuel 24 [u] = some y) :
    ∃ (a : Option Addr) (n c : Nat) (row : List Int), u = .slice a n c ∧ n ≤ c ∧ c ≤ maxLen ∧ row.length = n ∧ ∀ m, m ≤ n → Rd w (.slice a m c) (ints (row.take m)) := by
  rcases open_ints Tryz.underlying24 Tryz.underlying3 cells_int hf with ⟨hc, _⟩ | ⟨a', len', cap', zs, hc, _, hle, hcm, hzl, _, hat, _⟩
  · simp only [List.cons.injEq, and_true] at hc
    subst hc
    exact ⟨none, 0, 0, [], rfl, Nat.le_refl _, by unfold maxLen; omega, rfl, fun m hm => .inl ⟨by simp [ints], none, 0, by rw [show m = 0 from by omega]⟩⟩
  · simp only [List.cons.injEq, and_true] at hc
    subst hc
    have hml : len' ≤ zs.length := by rw [hzl]; split <;> omega
    refine ⟨some a', len', cap', zs.take len', rfl, hle, hcm, by rw [List.length_take]; omega, fun k hk => ?_⟩
    rw [List.take_take, Nat.min_eq_left hk]
    by_cases h0 : 0 < k
    · obtain ⟨b, o, spot⟩ := a'
      have hspot : spot = none := by
        have := hat 0 (by omega)
        simpa [Addr.add] using World.cell?_spot this
      subst hspot
      refine .inr ⟨by rw [ints_len, List.length_take]; omega, b, o, cap', by rw [ints_len, List.length_take, Nat.min_eq_left (by omega)], fun i u hu => ?_⟩
      unfold ints at hu
      rw [List.getElem?_map, List.getElem?_take] at hu
      have hik : i < k := by
        by_cases hh : i < k
        · exact hh
        · rw [if_neg hh] at hu; cases hu
      rw [if_pos hik, List.getElem?_eq_getElem (by omega)] at hu
      have h1 := hat i (by omega)
      have hadd : (⟨b, o, none⟩ : Addr).add i = ⟨b, o + i, none⟩ := by unfold Addr.add; split <;> simp_all
      rw [hadd, List.getD_eq_getElem?_getD, List.getElem?_eq_getElem (by omega)] at h1
      rw [h1]
      simpa using hu
    · have : k = 0 := by omega
      subst this
      exact .inl ⟨by simp [ints], _, _, rfl⟩
theorem cells_fdE : Tryz.prog.cellsOf 26 = 4 := by kernel_rfl
theorem cells_u32E : Tryz.prog.cellsOf 23 = 1 := by kernel_rfl
theorem cells_intsE : Tryz.prog.cellsOf 24 = 1 := by kernel_rfl
theorem open_fdE {H : Type} {enc : TypeId × Value → H} {w : World} {base : Nat} {sp : Nat → Bool} {held : Bool} (fuel : Nat) (cs : List Value) (y : DataW H × List MemPlace)
    (h : DataW.trod enc Tryz.prog w base sp held fuel 26 cs = some y) : ∃ p : Fd × Value, cs = fdC p ∧ Rd w p.2 (ints p.1.r) ∧ p.1.r.length ≤ maxLen := by
  obtain ⟨ys, n, _, rfl, hcl, hl, hf⟩ := DataW.trod_struct Tryz.underlying26 h
  rw [cells_fdE] at hcl
  have hl4 : ys.length = 4 := hl
  have h0 : DataW.trod enc Tryz.prog w base sp held n 3 ((cs.drop 0).take (Tryz.prog.cellsOf 3)) = ys[0]? := hf 0 _ rfl
  have h1 : DataW.trod enc Tryz.prog w base sp held n 23 ((cs.drop 1).take (Tryz.prog.cellsOf 23)) = ys[1]? := hf 1 _ rfl
  have h2 : DataW.trod enc Tryz.prog w base sp held n 24 ((cs.drop 2).take (Tryz.prog.cellsOf 24)) = ys[2]? := hf 2 _ rfl
  have h3 : DataW.trod enc Tryz.prog w base sp held n 3 ((cs.drop 3).take (Tryz.prog.cellsOf 3)) = ys[3]? := hf 3 _ rfl
  rw [cells_int] at h0 h3
  rw [cells_u32E] at h1
  rw [cells_intsE] at h2
  rw [List.getElem?_eq_getElem (by omega)] at h0 h1 h2 h3
  obtain ⟨z0, c0, _, _⟩ := DataW.trod_int Tryz.underlying3 h0
  obtain ⟨z1, c1, _, _⟩ := DataW.trod_int Tryz.underlying23 h1
  obtain ⟨z3, c3, _, _⟩ := DataW.trod_int Tryz.underlying3 h3
  obtain ⟨u, hu⟩ : ∃ u, (cs.drop 2).take 1 = [u] := ⟨cs[2]'(by omega), by rw [List.drop_eq_getElem_cons (by omega)]; rfl⟩
  rw [hu] at h2
  obtain ⟨a, m, c, row, rfl, hmc, hcm, hrl, hr⟩ := ints_whole h2
  have hr1 := hr m (Nat.le_refl _)
  rw [List.take_of_length_le (Nat.le_of_eq hrl)] at hr1
  refine ⟨(⟨z0, z1, row, z3⟩, .slice a m c), ?_, hr1, by show row.length ≤ _; omega⟩
  have a0 := at_one _ _ _ c0
  have a1 := at_one _ _ _ c1
  have a2 := at_one _ _ _ hu
  have a3 := at_one _ _ _ c3
  apply List.ext_getElem?
  intro i
  by_cases hi : i < 4
  · have hc : i = 0 ∨ i = 1 ∨ i = 2 ∨ i = 3 := by omega
    rcases hc with rfl | rfl | rfl | rfl
    · rw [a0]; rfl
    · rw [a1]; rfl
    · rw [a2]; rfl
    · rw [a3]; rfl
  · rw [List.getElem?_eq_none (by omega), List.getElem?_eq_none (by simp [fdC]; omega)]
end Go.Proofs.YtpjfhdljagkefaaGreatDoor
/- A world (chapter 15's finding) among the arguments, by value, its row and its own cut to their first N. -/
namespace Go.Proofs.YtpjfhdljagkefaaGreatDoor.WPlain
end Go.Proofs.YtpjfhdljagkefaaGreatDoor.WPlain
namespace Go.Proofs.YtpjfhdljagkefaaGreatDoor.RPlain
end Go.Proofs.YtpjfhdljagkefaaGreatDoor.RPlain
namespace Go.Proofs.YtpjfhdljagkefaaGreatDoor
open Go.ChangeShapes Go.WideShapes Go.ChangeAt Go.RowKit
open Go.Deep WPlain RPlain

theorem cells_wdT : Tryz.prog.cellsOf 40 = 5 := by kernel_rfl
theorem cells_fdsT : Tryz.prog.cellsOf 38 = 1 := by kernel_rfl
theorem open_wd (N : Nat) {H : Type} {enc : TypeId × Value → H} {w : World} {base : Nat} {sp : Nat → Bool} {held : Bool} (fuel : Nat) (cs : List Value) (y : DataW H × List MemPlace)
    (h : DataW.trod enc Tryz.prog w base sp held fuel 40 cs = some y) : ∃ (x c s : Int) (a : Option Addr) (n cap : Nat) (row : List Int) (b : Option Addr) (m d : Nat) (own : List Fd), cs = [.int .i64 x, .int .u32 c, .slice a n cap, .slice b m d, .int .i64 s] ∧ n ≤ cap ∧ m ≤ d ∧
      Rd w (.slice a (min (n : Int) N).toNat cap) (ints row) ∧ Fds w (.slice b (min (m : Int) N).toNat d) own ∧ ∀ f ∈ own, f.r.length ≤ maxLen := by
  obtain ⟨ys, n, _, rfl, hcl, hl, hf⟩ := DataW.trod_struct Tryz.underlying40 h
  rw [cells_wdT] at hcl
  have hl5 : ys.length = 5 := hl
  have h0 : DataW.trod enc Tryz.prog w base sp held n 3 ((cs.drop 0).take (Tryz.prog.cellsOf 3)) = ys[0]? := hf 0 _ rfl
  have h1 : DataW.trod enc Tryz.prog w base sp held n 23 ((cs.drop 1).take (Tryz.prog.cellsOf 23)) = ys[1]? := hf 1 _ rfl
  have h2 : DataW.trod enc Tryz.prog w base sp held n 24 ((cs.drop 2).take (Tryz.prog.cellsOf 24)) = ys[2]? := hf 2 _ rfl
  have h3 : DataW.trod enc Tryz.prog w base sp held n 38 ((cs.drop 3).take (Tryz.prog.cellsOf 38)) = ys[3]? := hf 3 _ rfl
  have h4 : DataW.trod enc Tryz.prog w base sp held n 3 ((cs.drop 4).take (Tryz.prog.cellsOf 3)) = ys[4]? := hf 4 _ rfl
  rw [cells_int] at h0 h4
  rw [cells_u32E] at h1
  rw [cells_intsE] at h2
  rw [cells_fdsT] at h3
  rw [List.getElem?_eq_getElem (by omega)] at h0 h1 h2 h3 h4
  obtain ⟨z0, c0, _, _⟩ := DataW.trod_int Tryz.underlying3 h0
  obtain ⟨z1, c1, _, _⟩ := DataW.trod_int Tryz.underlying23 h1
  obtain ⟨z4, c4, _, _⟩ := DataW.trod_int Tryz.underlying3 h4
  obtain ⟨u, hu⟩ : ∃ u, (cs.drop 2).take 1 = [u] := ⟨cs[2]'(by omega), by rw [List.drop_eq_getElem_cons (by omega)]; rfl⟩
  obtain ⟨u3, hu3⟩ : ∃ u, (cs.drop 3).take 1 = [u] := ⟨cs[3]'(by omega), by rw [List.drop_eq_getElem_cons (by omega)]; rfl⟩
  rw [hu] at h2
  rw [hu3] at h3
  obtain ⟨a, m, c, row, rfl, hmc, hcm, hrl, hr⟩ := ints_whole h2
  obtain ⟨b, m3, d, rfl, hmd, -, -, hr3⟩ := rows_read Tryz.underlying38 cells_fdE (by decide) fdC_len (Q := fun q => Rd w q.2 (ints q.1.r) ∧ q.1.r.length ≤ maxLen) (fun fuel cs y h => open_fdE fuel cs y h) h3
  obtain ⟨L, hL, hR, hQ⟩ := hr3 (min (m3 : Int) N).toNat (by omega)
  refine ⟨z0, z1, z4, a, m, c, _, b, m3, d, L.map (·.1), ?_, hmc, hmd, hr (min (m : Int) N).toNat (by omega), ⟨L, rfl, hR, fun p hp => (hQ p hp).1⟩, fun f hf => ?_⟩
  · have a0 := at_one _ _ _ c0
    have a1 := at_one _ _ _ c1
    have a2 := at_one _ _ _ hu
    have a3 := at_one _ _ _ hu3
    have a4 := at_one _ _ _ c4
    apply List.ext_getElem?
    intro i
    by_cases hi : i < 5
    · have hc : i = 0 ∨ i = 1 ∨ i = 2 ∨ i = 3 ∨ i = 4 := by omega
      rcases hc with rfl | rfl | rfl | rfl | rfl
      · rw [a0]; rfl
      · rw [a1]; rfl
      · rw [a2]; rfl
      · rw [a3]; rfl
      · rw [a4]; rfl
    · rw [List.getElem?_eq_none (by omega), List.getElem?_eq_none (by simp; omega)]
  · obtain ⟨q, hq, rfl⟩ := List.mem_map.1 hf
    exact (hQ q hq).2
set_option maxRecDepth 100000 in
/-- a world among the arguments, by value -/
theorem open_world (N : Nat) {H : Type} {enc : TypeId × Value → H} {W w : World} {r : Reach} {b0 base : Nat} {sp : Nat → Bool} {held : Bool} {v : Value} {d : DataW H} {p : List MemPlace} (hv : Value.okWide Tryz.prog W r b0 40 v) (h : DataW.Trod enc Tryz.prog w base sp held 40 v d p) :
    ∃ (x c s : Int) (a : Option Addr) (n cap : Nat) (row : List Int) (b : Option Addr) (m k : Nat) (own : List Fd), v = .agg #[.int .i64 x, .int .u32 c, .slice a n cap, .slice b m k, .int .i64 s] ∧ n ≤ cap ∧ m ≤ k ∧
      Rd w (.slice a (min (n : Int) N).toNat cap) (ints row) ∧ Fds w (.slice b (min (m : Int) N).toNat k) own ∧ ∀ f ∈ own, f.r.length ≤ maxLen := by
  obtain ⟨cs, rfl, hsz⟩ := okWide_struct Tryz.underlying40 hv
  obtain ⟨fuel, hf⟩ := h
  obtain ⟨x, c, s, a, n, cap, row, b, m, k, own, hq, hn, hm, hr, hF, hw⟩ := open_wd N _ _ _ hf
  refine ⟨x, c, s, a, n, cap, row, b, m, k, own, ?_, hn, hm, hr, hF, hw⟩
  congr 1
  cases cs
  simpa [Value.cells] using hq
end Go.Proofs.YtpjfhdljagkefaaGreatDoor
