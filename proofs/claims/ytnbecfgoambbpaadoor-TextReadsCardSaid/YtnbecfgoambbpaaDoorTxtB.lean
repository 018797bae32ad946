/- The walks of package text's within, place and number. -/
import Derived.Test.YtnbecfgoambbpaaDoorKitB
import Derived.Test.YtnbecfgoambbpaaDoorWalkF
import Derived.Deep.QuietTactic
import Derived.BigQuiet
namespace Go.Proofs.YtnbecfgoambbpaaDoor
open Go.RowKit WPlain

theorem within_any (n lo hi : Int) (w : World) :
    Calls Tryd.prog 46 #[.int .i64 n, .int .i64 lo, .int .i64 hi] w fun e w' => e = .returned (.bool (inB n lo hi)) ∧ w = w' := by
  unfold inB
  go_enter Tryd.func46, Tryd.ntmps46
  go_wp2
  all_goals
    go_ret
    exact ⟨ret_bool (by first | (simp [*]; done) | (simp; omega)), rfl⟩

/-- a line's value -/
def IsLn (w : World) (v : Value) (L : Ln) : Prop := ∃ v1 v2, v = .agg #[v1, v2, .int .i64 L.en] ∧ Rd w v1 (L.ws.map fun l => .string ⟨l.toArray⟩) ∧ Rd w v2 (L.bs.map fun b : Nat => Value.int .i64 (b : Int))

set_option maxHeartbeats 400000 in
theorem place_any (v : Value) (L : Ln) (i : Nat) (w : World) (h : IsLn w v L) (hi : i ≤ 2147483648) (hl : L.bs.length ≤ 2147483648) :
    Calls Tryd.prog 36 #[v, .int .i64 i] w fun e w' => e = .returned (.int .i64 (placeAt L i)) ∧ Below w.heap.size w w' := by
  obtain ⟨v1, v2, rfl, h1, h2⟩ := h
  obtain ⟨a1, c1, rfl⟩ := h1.len
  clear h1
  unfold placeAt
  by_cases hlt : i < L.bs.length
  · obtain ⟨b, o, c, rfl, hb, hc⟩ := h2.opened (by simpa using (by omega : 0 < L.bs.length))
    · have hci := hc i (.int .i64 L.bs[i]) (by rw [List.getElem?_map, List.getElem?_eq_getElem hlt]; rfl)
      clear hc
      rw [List.getElem?_eq_getElem hlt]
      simp only [List.length_map]
      generalize L.bs[i] = y at *
      generalize L.bs.length = n at *
      generalize L.ws.length = m at *
      generalize L.en = en at *
      go_enter Tryd.func36, Tryd.ntmps36
      go_wp2
      go_ret
      exact ⟨rfl, (Below.refl _ _).alloc (Nat.le_refl _) _⟩
  · obtain ⟨a2, c2, rfl⟩ := h2.len
    clear h2
    rw [List.getElem?_eq_none (by omega)]
    simp only [List.length_map]
    generalize L.bs.length = n at *
    generalize L.ws.length = m at *
    generalize L.en = en at *
    go_enter Tryd.func36, Tryd.ntmps36
    go_wp2
    go_ret
    exact ⟨rfl, (Below.refl _ _).alloc (Nat.le_refl _) _⟩

set_option maxHeartbeats 1000000 in
theorem number_any (v : Value) (L : Ln) (i : Nat) (lo hi : Int) (w : World) (h : IsLn w v L) (hi0 : i ≤ 2147483648) (hl : L.ws.length ≤ 2147483648) (hz : ∀ l ∈ L.ws, l.length ≤ 2147483648) :
    Calls Tryd.prog 53 #[v, .int .i64 i, .int .i64 lo, .int .i64 hi] w fun e w' => e = .returned (.tuple #[.int .i64 (numAt L i lo hi).1, .int .i64 (numAt L i lo hi).2]) ∧ Below w.heap.size w w' := by
  obtain ⟨v1, v2, rfl, h1, h2⟩ := h
  obtain ⟨a2, c2, rfl⟩ := h2.len
  clear h2
  unfold numAt
  by_cases hlt : i < L.ws.length
  · obtain ⟨b, o, c, rfl, hb, hc⟩ := h1.opened (by simpa using (by omega : 0 < L.ws.length))
    have hci := hc i (.string ⟨L.ws[i].toArray⟩) (by rw [List.getElem?_map, List.getElem?_eq_getElem hlt]; rfl)
    clear hc h1
    rw [List.getElem?_eq_getElem hlt]
    have hyz := hz L.ws[i] (List.getElem_mem _)
    obtain ⟨y, hy⟩ : ∃ y : ByteArray, y.data.toList = L.ws[i] := ⟨⟨L.ws[i].toArray⟩, by simp⟩
    rw [← hy] at hci hyz ⊢
    have hys : y.size ≤ 2147483648 := hyz
    clear hy hyz hz
    simp only [List.length_map]
    generalize L.bs.length = n at *
    generalize L.ws.length = m at *
    generalize L.en = en at *
    unfold numOf
    have he := intSpec_e y.data.toList
    have HI := int_any y
    obtain ⟨p, hp⟩ : ∃ p, p = intSpec y.data.toList := ⟨_, rfl⟩
    simp only [← hp] at HI he ⊢
    have HII := Lib.hid HI
    clear HI hp
    obtain ⟨n1, e1⟩ := p
    simp only at he HII ⊢
    have hmk : ((⟨y.data.toList.toArray⟩ : ByteArray)) = y := rfl
    by_cases he0 : e1 = 0
    · subst he0
      clear he
      rw [if_neg (by simp)]
      cases hin : inB n1 lo hi with
      | true =>
        have HN := Lib.hid hin
        clear hin
        rw [if_pos rfl]
        go_enter Tryd.func53, Tryd.ntmps53
        go_wp2_with fail
        refine (HII.out _ hys).mono ?_
        rintro e w1 ⟨rfl, hb1⟩
        have hb2 := ((Below.refl w.heap.size w).alloc (Nat.le_refl _) (.cells #[.slice (some ⟨b, o, none⟩) m c, .slice a2 n c2, .int .i64 en] 48)).trans (hb1.mono (by simp))
        clear hb1
        go_wp2_with fail
        refine (within_any _ _ _ _).mono ?_
        rintro e w2 ⟨rfl, rfl⟩
        rw [HN.out]
        go_wp2
        go_ret2
        exact ⟨rfl, hb2⟩
      | false =>
        have HN := Lib.hid hin
        clear hin
        rw [if_neg (by simp)]
        go_enter Tryd.func53, Tryd.ntmps53
        go_wp2_with fail
        refine (HII.out _ hys).mono ?_
        rintro e w1 ⟨rfl, hb1⟩
        have hb2 := ((Below.refl w.heap.size w).alloc (Nat.le_refl _) (.cells #[.slice (some ⟨b, o, none⟩) m c, .slice a2 n c2, .int .i64 en] 48)).trans (hb1.mono (by simp))
        clear hb1
        go_wp2_with fail
        refine (within_any _ _ _ _).mono ?_
        rintro e w2 ⟨rfl, rfl⟩
        rw [HN.out]
        go_wp2
        go_ret2
        exact ⟨rfl, hb2⟩
    · rw [if_pos he0]
      have hne : ((e1 : Int) != 0) = true := by simpa using he0
      clear he he0
      go_enter Tryd.func53, Tryd.ntmps53
      go_wp2_with fail
      refine (HII.out _ hys).mono ?_
      rintro e w1 ⟨rfl, hb1⟩
      have hb2 := ((Below.refl w.heap.size w).alloc (Nat.le_refl _) (.cells #[.slice (some ⟨b, o, none⟩) m c, .slice a2 n c2, .int .i64 en] 48)).trans (hb1.mono (by simp))
      clear hb1
      go_wp2
      go_ret2
      exact ⟨rfl, hb2⟩
  · obtain ⟨a1, c1, rfl⟩ := h1.len
    clear h1
    rw [List.getElem?_eq_none (by omega)]
    simp only [List.length_map, numOf]
    generalize L.bs.length = n at *
    generalize L.ws.length = m at *
    generalize L.en = en at *
    go_enter Tryd.func53, Tryd.ntmps53
    go_wp2
    go_ret2
    exact ⟨rfl, (Below.refl _ _).alloc (Nat.le_refl _) _⟩
end Go.Proofs.YtnbecfgoambbpaaDoor
