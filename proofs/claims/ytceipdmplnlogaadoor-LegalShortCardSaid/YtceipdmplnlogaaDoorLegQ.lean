/- The walks of LegalShort's closure, of slices.IndexFunc and of slices.DeleteFunc with it. -/
import Derived.Test.YtceipdmplnlogaaDoorLegL
import Derived.Laws.OwnMore
import Derived.Laws.IdiomCopy
import Derived.WalkLawsBesides
namespace Go.Proofs.YtceipdmplnlogaaDoor.WPlain
end Go.Proofs.YtceipdmplnlogaaDoor.WPlain
namespace Go.Proofs.YtceipdmplnlogaaDoor.QPlain
end Go.Proofs.YtceipdmplnlogaaDoor.QPlain
namespace Go.Proofs.YtceipdmplnlogaaDoor.RPlain
end Go.Proofs.YtceipdmplnlogaaDoor.RPlain
namespace Go.Proofs.YtceipdmplnlogaaDoor.RPlain
open WPlain QPlain

/-- is a place's bit 1? -/
def keepB (x : Nat) (t : Int) : Bool := x.testBit t.toNat
theorem filt_more {p : Int → Bool} {xs : List Int} {j : Nat} (hj : j < xs.length) : (xs.take (j + 1)).filter p = if p xs[j] = true then (xs.take j).filter p ++ [xs[j]] else (xs.take j).filter p := by
  rw [List.take_succ_eq_append_getElem hj, List.filter_append]
  cases h : p xs[j] <;> simp [h]
theorem filt_all {p : Int → Bool} {xs : List Int} (hall : ∀ y ∈ xs, p y = true) : xs.filter p = xs := List.filter_eq_self.2 hall
end Go.Proofs.YtceipdmplnlogaaDoor.RPlain
namespace Go.Proofs.YtceipdmplnlogaaDoor
open Go.RowKit WPlain QPlain RPlain

theorem shortC_any (t : Int) (x N : Nat) (ht : 0 ≤ t ∧ t < 32) (hx : x < 4294967296) (w : World) (hc : w.cell? ⟨N, 0, none⟩ = some (.int .u32 (x : Int))) :
    Calls Tryd.prog 22 #[.int .i64 t, .pointer (some ⟨N, 0, none⟩)] w fun e w' => e = .returned (.bool (!keepB x t)) ∧ w' = w := by
  obtain ⟨k, rfl⟩ : ∃ k : Nat, t = (k : Int) := ⟨t.toNat, by omega⟩
  have hk : min k 32 = k := by omega
  have hand := u32_and_nat (x / 2 ^ k) 1 (Nat.lt_of_le_of_lt (Nat.div_le_self _ _) hx) (by decide)
  rw [Nat.and_one_is_mod] at hand
  have hkb : keepB x (k : Int) = decide (x / 2 ^ k % 2 = 1) := by unfold keepB; rw [Int.toNat_natCast]; exact Nat.testBit_eq_decide_div_mod_eq
  have hcast : ((x / 2 ^ k : Nat) : Int) = (x : Int) / 2 ^ k := by simp
  rw [hcast] at hand
  rw [hkb]
  have h2 : x / 2 ^ k % 2 = 0 ∨ x / 2 ^ k % 2 = 1 := by omega
  generalize x / 2 ^ k % 2 = z at *
  clear hcast hkb
  go_enter Tryd.func22, Tryd.ntmps22
  go_wp2
  go_ret
  refine ⟨ret_bool ?_, rfl⟩
  rcases h2 with rfl | rfl
  · have h3 : bits .and .u32 ((x : Int) / 2 ^ k) 1 = 0 := hand
    rw [h3]; rfl
  · have h3 : bits .and .u32 ((x : Int) / 2 ^ k) 1 = 1 := hand
    rw [h3]; rfl
set_option maxRecDepth 100000 in
set_option maxHeartbeats 1000000 in
theorem indexK_any (v : Value) (xs : List Int) (x N : Nat) (w : World) (hv : Rd w v (ints xs)) (hl : xs.length ≤ 65536) (hp : ∀ t ∈ xs, 0 ≤ t ∧ t < 32) (hx : x < 4294967296) (hc : w.cell? ⟨N, 0, none⟩ = some (.int .u32 (x : Int))) :
    Calls Tryd.prog 39 #[v, .func (.func 22) #[] #[.pointer (some ⟨N, 0, none⟩)]] w fun e w' => w' = w ∧
      ((e = .returned (.int .i64 (-1)) ∧ ∀ y ∈ xs, keepB x y = true) ∨ ∃ i : Nat, e = .returned (.int .i64 i) ∧ i < xs.length ∧ (∀ y ∈ xs.take i, keepB x y = true) ∧ ∀ y, xs[i]? = some y → keepB x y = false) := by
  have HV := Lib.hid hv
  have HCL := Lib.hid (fun t (ht : t ∈ xs) => shortC_any t x N (hp t ht) hx w hc)
  obtain ⟨va, vc, rfl⟩ := hv.len
  rw [ints_len] at HV ⊢
  clear hv hc hp
  go_enter Tryd.func39, Tryd.ntmps39
  go_wp2_with fail
  go_loopw [8] (fun u wr => ∃ k : Nat, k ≤ xs.length ∧ u = .int .i64 k ∧ Hid (∀ y ∈ xs.take k, keepB x y = true) ∧ wr = w) (fun u _ => xs.length - (intOf u).toNat)
  case atStart => exact ⟨0, by omega, rfl, fun y hy => by simp at hy, rfl⟩
  case round =>
    obtain ⟨k, hk, rfl, HA, rfl⟩ := hrel
    by_cases hlt : k < xs.length
    · have HT : Hid (xs.take (k + 1) = xs.take k ++ [xs[k]]) := List.take_succ_eq_append_getElem hlt
      have HG : Hid (xs[k]? = some xs[k]) := List.getElem?_eq_getElem hlt
      have HC2 := Lib.hid (HCL.out xs[k] (List.getElem_mem hlt))
      obtain ⟨b, o, c', he, hbl, hcs⟩ := HV.out.opened (by rw [ints_len]; omega)
      simp only [Value.slice.injEq] at he
      obtain ⟨rfl, -, rfl⟩ := he
      have hck := hcs k (.int .i64 xs[k]) (by unfold ints; rw [List.getElem?_map, List.getElem?_eq_getElem hlt]; rfl)
      clear hcs
      generalize xs[k] = y at *
      cases hkb : keepB x y with
      | true =>
        rw [hkb] at HC2
        have HA2 : Hid (∀ z ∈ xs.take (k + 1), keepB x z = true) := by
          intro z hz
          rw [HT.out] at hz
          rcases List.mem_append.1 hz with hz | hz
          · exact HA.out z hz
          · rw [List.mem_singleton.1 hz]; exact hkb
        clear hkb HT HG HA
        go_wp2_with (go_at_call 22; refine HC2.out.mono ?_; rintro e w3 ⟨rfl, rfl⟩)
        go_roundw
        case rel => exact ⟨k + 1, by omega, by go_num, HA2, trivial⟩
        case measure => simp [intOf]; omega
      | false =>
        rw [hkb] at HC2
        have HNE : Hid (∀ z, xs[k]? = some z → keepB x z = false) := by
          intro z hz
          rw [HG.out] at hz
          rw [← Option.some.inj hz]; exact hkb
        clear hkb HT HG
        go_wp2_with (go_at_call 22; refine HC2.out.mono ?_; rintro e w3 ⟨rfl, rfl⟩)
        refine bodyPost_ret (v := .int .i64 k) (by simp [results, Tryd.results39, go_sem]) rfl ⟨rfl, .inr ⟨k, rfl, hlt, HA.out, HNE.out⟩⟩
    · obtain rfl : k = xs.length := by omega
      have HA2 : Hid (∀ y ∈ xs, keepB x y = true) := by have := HA.out; rwa [List.take_length] at this
      clear HA
      go_wp2
      refine bodyPost_ret (v := .int .i64 (-1)) (by simp [results, Tryd.results39, go_sem]) rfl ⟨rfl, .inl ⟨rfl, HA2.out⟩⟩
/-- the cells of n numbers of nought -/
def zI (n : Nat) : List Value := (Builtin.zeroCells (Value.int .i64 0).cells n).toList
theorem zI_len (n : Nat) : (zI n).length = n := by simp [zI, Builtin.zeroCells, Value.cells]
theorem zI_one (n : Nat) : ∀ v ∈ zI n, v.oneCell' = true := by
  intro v hv
  simp only [zI, Builtin.zeroCells, Value.cells, Array.toList_map, List.mem_map] at hv
  obtain ⟨i, _, rfl⟩ := hv
  have h4 : (#[Value.int .i64 0] : Array Value).size = 1 := rfl
  rw [h4, Nat.mod_one]
  rfl
theorem clear_ints (w : World) (ty : TypeId) (g o n c : Nat) (hn : 0 < n) (hc : ∀ j, j < n → (w.cell? ⟨g, o + j, none⟩).isSome = true) (hf : ∀ j, w.frozen? ⟨g, o + j, none⟩ = false) :
    (Builtin.clear_ #[23] ty #[.slice (some ⟨g, o, none⟩) n c]).run Tryd.prog w = .ok (.tuple #[]) (w.setCells g o (zI n)) := by
  have hst := run_storeCells_cells (P := Tryd.prog) g o (zI n) 0 w (fun j hj => by rw [zI_len] at hj; exact hc j hj) (fun j _ => hf j) (zI_one n)
  simp only [Nat.add_zero] at hst
  obtain ⟨m, rfl⟩ : ∃ m, n = m + 1 := ⟨n - 1, by omega⟩
  unfold zI at hst ⊢
  simp [Builtin.clear_, run_underlying Tryd.underlying23, hst]
theorem below_cellsL {B b : Nat} {w : World} (hb : B ≤ b) : ∀ (vs : List Value) (o : Nat) (w' : World), Below B w w' → Below B w (w'.setCells b o vs) := by
  intro vs
  induction vs with
  | nil => intro o w' h; exact h
  | cons v r ih => intro o w' h; exact ih _ _ (h.setCell (p := ⟨b, o, none⟩) hb _)
theorem ints_set (H : List Int) (i : Nat) (y : Int) : (ints H).set i (.int .i64 y) = ints (H.set i y) := by
  unfold ints
  rw [List.map_set]
theorem ints_at (H : List Int) (i : Nat) (hi : i < H.length) : (ints H)[i]? = some (.int .i64 H[i]) := by
  unfold ints
  rw [List.getElem?_map, List.getElem?_eq_getElem hi]
  rfl
set_option maxRecDepth 100000 in
set_option maxHeartbeats 2000000 in
theorem deleteG_any (B g cap N : Nat) (xs : List Int) (x : Nat) (w : World) (hrow : w.ownsRow B 3 1 (.slice (some ⟨g, 0, none⟩) xs.length cap) xs.length (ints xs)) (hl : xs.length ≤ 65536) (hcap : xs.length ≤ cap) (hp : ∀ t ∈ xs, 0 ≤ t ∧ t < 32) (hx : x < 4294967296) (hN : N < B) (hB : B ≤ w.heap.size) (hc : w.cell? ⟨N, 0, none⟩ = some (.int .u32 (x : Int))) :
    Calls Tryd.prog 20 #[.slice (some ⟨g, 0, none⟩) xs.length cap, .func (.func 22) #[] #[.pointer (some ⟨N, 0, none⟩)]] w fun e w' => Below B w w' ∧ e = .returned (.slice (some ⟨g, 0, none⟩) (xs.filter (keepB x)).length cap) ∧ Rd w' (.slice (some ⟨g, 0, none⟩) (xs.filter (keepB x)).length cap) (ints (xs.filter (keepB x))) := by
  have HIX := Lib.hid (indexK_any _ xs x N w (Rd.of_row hrow) hl hp hx hc)
  have HC := Lib.hid hc
  have HROW := Lib.hid hrow
  have HP := Lib.hid hp
  have hgB := (hrow.lt g rfl).1
  clear hrow hc hp
  go_enter Tryd.func20, Tryd.ntmps20
  go_wp2_with fail
  refine HIX.out.mono ?_
  rintro e w1 ⟨rfl, hcase⟩
  clear HIX
  rcases hcase with ⟨rfl, hall⟩ | ⟨i0, rfl, hi0, hall, hne⟩
  · have HO : Hid (xs.filter (keepB x) = xs) := filt_all hall
    clear hall
    go_wp2
    refine bodyPost_ret (v := .slice (some ⟨g, 0, none⟩) xs.length cap) (by simp [results, Tryd.results20, go_sem]) rfl ⟨Below.refl _ _, by rw [HO.out], ?_⟩
    rw [HO.out]
    exact Rd.of_row HROW.out
  · have ht0 : ((i0 : Int) == -1) = false := by simp
    have H0 : Hid (xs.take i0 = (xs.take (i0 + 1)).filter (keepB x)) := by
      unfold Hid
      rw [filt_more hi0, hne _ (List.getElem?_eq_getElem hi0), if_neg (by decide)]
      exact (filt_all hall).symm
    clear hall hne
    go_wp2_with fail
    go_loopw [5, 6] (fun u y wr => ∃ (i j : Nat) (H : List Int), u = .int .i64 i ∧ y = .int .i64 j ∧ i < j ∧ j ≤ xs.length ∧ Hid (H.length = xs.length) ∧ Hid (wr.ownsRow B 3 1 (.slice (some ⟨g, 0, none⟩) xs.length cap) xs.length (ints H)) ∧ Hid (H.take i = (xs.take j).filter (keepB x)) ∧ Hid (H.drop j = xs.drop j) ∧ Hid (Below B w1 wr)) (fun _ y _ => xs.length - (intOf y).toNat)
    case atStart => exact ⟨i0, i0 + 1, xs, rfl, rfl, by omega, by omega, rfl, HROW, H0, rfl, Below.refl _ _⟩
    case round =>
      clear H0 HROW ht0
      obtain ⟨i, j, H, rfl, rfl, hij, hj, hHl, HROW, HT, HD, HB⟩ := hrel
      have hhl := hHl.out
      by_cases hlt : j < xs.length
      · have hjH : H[j]'(by omega) = xs[j] := by
          have h1 := congrArg (·[0]?) HD.out
          simp only [List.getElem?_drop, Nat.add_zero] at h1
          rw [List.getElem?_eq_getElem (by omega), List.getElem?_eq_getElem hlt] at h1
          exact Option.some.inj h1
        have HM := Lib.hid (filt_more (p := keepB x) hlt)
        have p0 := HROW.out.cellAt j (by omega)
        rw [ints_at H j (by omega), hjH] at p0
        have HCW := (HB.out.cell (p := ⟨N, 0, none⟩) hN).trans HC.out
        have HCL := Lib.hid (shortC_any xs[j] x N (HP.out _ (List.getElem_mem hlt)) hx wr HCW)
        clear hjH HCW
        generalize xs[j] = y at *
        cases hkb : keepB x y with
        | true =>
          rw [hkb] at HCL
          have HOF : Hid ((xs.take (j + 1)).filter (keepB x) = (xs.take j).filter (keepB x) ++ [y]) := by
            unfold Hid
            rw [HM.out, if_pos hkb]
          have hst := HROW.out.stored i (.int .i64 y)
          rw [ints_set] at hst
          have HR5 := Lib.hid hst.1
          have HB5 := Lib.hid (HB.out.setCell (p := ⟨g, i, none⟩) hgB (.int .i64 y))
          have HHL5 : Hid ((H.set i y).length = xs.length) := by unfold Hid; rw [List.length_set]; exact hHl.out
          have HT5 : Hid ((H.set i y).take (i + 1) = (xs.take (j + 1)).filter (keepB x)) := by
            unfold Hid
            rw [HOF.out, ← HT.out]
            have hiH : i < H.length := by omega
            rw [List.take_succ_eq_append_getElem (by rw [List.length_set]; exact hiH), List.getElem_set_self, List.take_set_of_le (Nat.le_refl _)]
          have HD5 : Hid ((H.set i y).drop (j + 1) = xs.drop (j + 1)) := by
            unfold Hid
            have h1 := congrArg (List.drop 1) HD.out
            rw [List.drop_drop, List.drop_drop] at h1
            rw [List.drop_set, if_pos (by omega)]
            exact h1
          have c0 := HROW.out.cellAt i (by omega)
          rw [ints_at H i (by omega)] at c0
          generalize H[i] = old at c0
          have z0 := HROW.out.frozenAt i
          clear hkb HM hst HOF HT HD HB HROW hhl
          go_wp2_with (go_at_call 22; refine HCL.out.mono ?_; rintro e w4 ⟨rfl, rfl⟩)
          go_roundw
          case rel => exact ⟨i + 1, j + 1, H.set i y, by go_num, by go_num, by omega, by omega, HHL5, HR5, HT5, HD5, HB5⟩
          case measure => simp [intOf]; omega
        | false =>
          rw [hkb] at HCL
          have HT5 : Hid (H.take i = (xs.take (j + 1)).filter (keepB x)) := by
            unfold Hid
            rw [HM.out, hkb, if_neg (by decide)]
            exact HT.out
          have HD5 : Hid (H.drop (j + 1) = xs.drop (j + 1)) := by
            unfold Hid
            have h1 := congrArg (List.drop 1) HD.out
            rwa [List.drop_drop, List.drop_drop] at h1
          clear hkb HM HT HD hhl
          go_wp2_with (go_at_call 22; refine HCL.out.mono ?_; rintro e w4 ⟨rfl, rfl⟩)
          go_roundw
          case rel => exact ⟨i, j + 1, H, rfl, by go_num, by omega, by omega, hHl, HROW, HT5, HD5, HB⟩
          case measure => simp [intOf]; omega
      · obtain rfl : j = xs.length := by omega
        have hO := HT.out
        rw [List.take_length] at hO
        have hOl : (xs.filter (keepB x)).length = i := by rw [← hO, List.length_take]; omega
        have hcl := fun ty => clear_ints wr ty g i (xs.length - i) (cap - i) (by omega) (fun j hj => by rw [HROW.out.cellAt _ (by omega), ints_at H _ (by omega)]; rfl) (fun j => HROW.out.frozenAt _)
        have HBZ := Lib.hid (below_cellsL hgB (zI (xs.length - i)) i wr HB.out)
        have HEZ : Hid (Rd (wr.setCells g i (zI (xs.length - i))) (.slice (some ⟨g, 0, none⟩) (xs.filter (keepB x)).length cap) (ints (xs.filter (keepB x)))) := by
          unfold Hid
          by_cases h0 : i = 0
          · have : xs.filter (keepB x) = [] := List.length_eq_zero_iff.1 (by omega)
            rw [this]
            exact .inl ⟨rfl, _, _, rfl⟩
          · refine .inr ⟨by rw [ints_len]; omega, g, 0, cap, by rw [ints_len], fun t u hu => ?_⟩
            have hti : t < i := by have := (List.getElem?_eq_some_iff.1 hu).1; rw [ints_len] at this; omega
            rw [World.cell?_setCells_out g (zI (xs.length - i)) i wr ⟨g, 0 + t, none⟩ (fun _ _ => .inl (by show 0 + t < i; omega)), Nat.zero_add, HROW.out.cellAt t (by omega), ← hu, ← hO]
            unfold ints
            rw [List.getElem?_map, List.getElem?_map, List.getElem?_take_of_lt hti]
        have hi0 : (0 : Int) ≤ (i : Int) := by omega
        have hin : (i : Int) ≤ (xs.length : Int) := by omega
        have hic : (i : Int) ≤ (cap : Int) := by omega
        have HOL := Lib.hid hOl
        clear hO HT HD HB HROW hOl hhl
        go_wp2
        exact bodyPost_ret (v := .slice (some ⟨g, 0, none⟩) i cap) (by simp [results, Tryd.results20, go_sem]) rfl ⟨HBZ.out, by rw [HOL.out], HEZ.out⟩
end Go.Proofs.YtceipdmplnlogaaDoor
