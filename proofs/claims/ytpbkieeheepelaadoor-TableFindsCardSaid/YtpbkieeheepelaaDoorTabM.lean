/- The walks of Find, of slices.IndexFunc with its closure, and of the reference's Find. -/
import Derived.Test.YtpbkieeheepelaaDoorTabK
namespace Go.Proofs.YtpbkieeheepelaaDoor.WPlain
end Go.Proofs.YtpbkieeheepelaaDoor.WPlain
namespace Go.Proofs.YtpbkieeheepelaaDoor.RPlain
end Go.Proofs.YtpbkieeheepelaaDoor.RPlain
namespace Go.Proofs.YtpbkieeheepelaaDoor
open Go.RowKit WPlain RPlain

/-- the place of the first transaction of a name -/
def findS (l : List Tx) (n : Int) : Option Nat := l.findIdx? (fun t => t.n == n)
theorem findS_some {l : List Tx} {n : Int} {k : Nat} (hk : k < l.length) (h1 : l[k].n = n) (h2 : ∀ y ∈ l.take k, y.n ≠ n) : findS l n = some k := by
  unfold findS
  rw [List.findIdx?_eq_some_iff_getElem]
  refine ⟨hk, by simpa using h1, fun j hj => ?_⟩
  have := h2 l[j] (List.mem_take_iff_getElem.2 ⟨j, by omega, rfl⟩)
  simpa using this
theorem findS_none {l : List Tx} {n : Int} (h2 : ∀ y ∈ l, y.n ≠ n) : findS l n = none := by
  unfold findS
  rw [List.findIdx?_eq_none_iff]
  intro y hy
  simpa using h2 y hy
theorem more_ne {l : List Tx} {n : Int} {k : Nat} (hk : k < l.length) (h1 : l[k].n ≠ n) (h2 : ∀ y ∈ l.take k, y.n ≠ n) : ∀ y ∈ l.take (k + 1), y.n ≠ n := by
  intro y hy
  rw [List.take_succ_eq_append_getElem hk] at hy
  rcases List.mem_append.1 hy with hy | hy
  · exact h2 y hy
  · rw [List.mem_singleton.1 hy]; exact h1
theorem isName_any (X : Tx) (u : Value) (nm : Int) (N : Nat) (w : World) (hc : w.cell? ⟨N, 0, none⟩ = some (.int .i64 nm)) :
    Calls Tryd.prog 29 #[.agg #[.int .i64 X.n, .int .i64 X.f, .int .i64 X.l, .int .i64 X.s, u], .pointer (some ⟨N, 0, none⟩)] w fun e w' => e = .returned (.bool (X.n == nm)) ∧ Below w.heap.size w w' := by
  have hb := (Below.refl w.heap.size w).alloc (Nat.le_refl _) (.cells #[.int .i64 X.n, .int .i64 X.f, .int .i64 X.l, .int .i64 X.s, u] 39)
  have hA := At.new w #[.int .i64 X.n, .int .i64 X.f, .int .i64 X.l, .int .i64 X.s, u] 39
  have e0 := hA.cell (i := 0) (v := .int .i64 X.n) rfl
  have c1 := hb.cell (p := ⟨N, 0, none⟩) (cell_lt hc)
  rw [hc] at c1
  clear hA
  go_enter Tryd.func29, Tryd.ntmps29
  go_wp2
  go_ret
  exact ⟨rfl, hb⟩
set_option maxRecDepth 100000 in
set_option maxHeartbeats 2000000 in
theorem indexTx_any (v : Value) (l : List Tx) (nm : Int) (N : Nat) (w : World) (hv : Txs w v l) (hl : l.length ≤ 65536) (hc : w.cell? ⟨N, 0, none⟩ = some (.int .i64 nm)) :
    Calls Tryd.prog 28 #[v, .func (.func 29) #[] #[.pointer (some ⟨N, 0, none⟩)]] w fun e w' => e = .returned (.int .i64 (match findS l nm with | some k => (k : Int) | none => -1)) ∧ Below w.heap.size w w' := by
  have hb0 := Below.refl w.heap.size w
  have HV := Lib.hid hv
  have HC := Lib.hid hc
  have hN := cell_lt hc
  obtain ⟨a, c, rfl⟩ := hv.len
  obtain ⟨R, hR⟩ : ∃ R : Int, (match findS l nm with | some k => (k : Int) | none => -1) = R := ⟨_, rfl⟩
  rw [hR]
  have HR := Lib.hid hR
  clear hv hc hR
  go_enter Tryd.func28, Tryd.ntmps28
  go_wp2_with fail
  go_loopw [8] (fun x wr => ∃ k : Nat, k ≤ l.length ∧ x = .int .i64 k ∧ Hid (∀ y ∈ l.take k, y.n ≠ nm) ∧ Hid (Below w.heap.size w wr)) (fun x _ => l.length - (intOf x).toNat)
  case atStart => exact ⟨0, by omega, rfl, (by intro y hy; simp at hy), hb0⟩
  case round =>
    clear hb0
    obtain ⟨k, hk, rfl, HA, HB⟩ := hrel
    by_cases hlt : k < l.length
    · have hv2 := HV.out.below HB.out (Nat.le_refl _)
      have hc2 := (HB.out.cell (p := ⟨N, 0, none⟩) hN).trans HC.out
      obtain ⟨b, o, c', he⟩ := hv2.opened (by omega)
      obtain ⟨rfl, rfl⟩ : a = some ⟨b, o, none⟩ ∧ c = c' := by simpa using he
      clear he
      obtain ⟨u, x0, x1, x2, x3, x4, -⟩ := hv2.get k hlt
      clear hv2
      by_cases hn : l[k].n = nm
      · have HF : Hid (R = k) := by unfold Hid; rw [← HR.out, findS_some hlt hn HA.out]
        have tb : (l[k].n == nm) = true := by simp [hn]
        generalize l[k] = X at *
        have HCL := Lib.hid (isName_any X u nm N wr hc2)
        rw [tb] at HCL
        clear hc2 tb hn
        go_wp2_with (go_at_call 29; refine HCL.out.mono ?_; rintro e w3 ⟨rfl, hb3⟩)
        refine bodyPost_ret (v := .int .i64 k) (by simp [results, Tryd.results28, go_sem]) rfl ⟨by rw [HF.out], HB.out.trans (hb3.mono HB.out.size)⟩
      · have HA2 := Lib.hid (more_ne hlt hn HA.out)
        have tb : (l[k].n == nm) = false := by simp [hn]
        generalize l[k] = X at *
        have HCL := Lib.hid (isName_any X u nm N wr hc2)
        rw [tb] at HCL
        clear hc2 tb hn
        go_wp2_with (go_at_call 29; refine HCL.out.mono ?_; rintro e w3 ⟨rfl, hb3⟩)
        have HB3 := Lib.hid (HB.out.trans (hb3.mono HB.out.size))
        go_roundw
        case rel => exact ⟨k + 1, by omega, by go_num, HA2, HB3⟩
        case measure => simp [intOf]; omega
    · obtain rfl : k = l.length := by omega
      have HA2 := HA.out
      rw [List.take_length] at HA2
      have HF : Hid (R = -1) := by unfold Hid; rw [← HR.out, findS_none HA2]
      clear HA HA2
      go_wp2
      refine bodyPost_ret (v := .int .i64 (-1)) (by simp [results, Tryd.results28, go_sem]) rfl ⟨by rw [HF.out], HB.out⟩
theorem find_any (v : Value) (l : List Tx) (nm : Int) (w : World) (hv : Txs w v l) (hl : l.length ≤ 65536) :
    Calls Tryd.prog 13 #[v, .int .i64 nm] w fun e w' => e = .returned (.tuple #[.int .i64 (match findS l nm with | some k => (k : Int) | none => 0), .int .i64 (match findS l nm with | some _ => 0 | none => 7)]) ∧ Below w.heap.size w w' := by
  have ba := (Below.refl w.heap.size w).alloc (Nat.le_refl _) (.cells #[.int .i64 nm] 3)
  have HIX := Lib.hid (indexTx_any v l nm w.heap.size _ (hv.below ba (Nat.le_refl _)) hl ((At.new w #[.int .i64 nm] 3).cell (i := 0) rfl))
  have HBA := Lib.hid ba
  obtain ⟨a, c, rfl⟩ := hv.len
  clear hv ba
  cases hf : findS l nm with
  | none =>
    rw [hf] at HIX
    clear hf
    go_enter Tryd.func13, Tryd.ntmps13
    go_wp2_with fail
    refine HIX.out.mono ?_
    rintro e w3 ⟨rfl, hb3⟩
    go_wp2
    refine bodyPost_ret (v := .tuple #[.int .i64 0, .int .i64 7]) (by simp [results, Tryd.results13, go_sem]) rfl ⟨rfl, HBA.out.trans (hb3.mono HBA.out.size)⟩
  | some k =>
    rw [hf] at HIX
    clear hf
    have t0 : ¬ ((k : Int) < 0) := by omega
    go_enter Tryd.func13, Tryd.ntmps13
    go_wp2_with fail
    refine HIX.out.mono ?_
    rintro e w3 ⟨rfl, hb3⟩
    go_wp2
    refine bodyPost_ret (v := .tuple #[.int .i64 k, .int .i64 0]) (by simp [results, Tryd.results13, go_sem]) rfl ⟨rfl, HBA.out.trans (hb3.mono HBA.out.size)⟩
set_option maxRecDepth 100000 in
set_option maxHeartbeats 2000000 in
theorem refFind_any (v : Value) (l : List Tx) (nm : Int) (w : World) (hv : Txs w v l) (hl : l.length ≤ 65536) :
    Calls Tryd.prog 15 #[v, .int .i64 nm] w fun e w' => e = .returned (.int .i64 (match findS l nm with | some k => (k : Int) | none => -1)) ∧ Below w.heap.size w w' := by
  have hb0 := Below.refl w.heap.size w
  have HV := Lib.hid hv
  obtain ⟨a, c, rfl⟩ := hv.len
  obtain ⟨R, hR⟩ : ∃ R : Int, (match findS l nm with | some k => (k : Int) | none => -1) = R := ⟨_, rfl⟩
  rw [hR]
  have HR := Lib.hid hR
  clear hv hR
  go_enter Tryd.func15, Tryd.ntmps15
  go_wp2_with fail
  go_loopw [9] (fun x wr => ∃ k : Nat, k ≤ l.length ∧ x = .int .i64 k ∧ Hid (∀ y ∈ l.take k, y.n ≠ nm) ∧ Hid (Below w.heap.size w wr)) (fun x _ => l.length - (intOf x).toNat)
  case atStart => exact ⟨0, by omega, rfl, (by intro y hy; simp at hy), hb0⟩
  case round =>
    clear hb0
    obtain ⟨k, hk, rfl, HA, HB⟩ := hrel
    by_cases hlt : k < l.length
    · have hv2 := HV.out.below HB.out (Nat.le_refl _)
      obtain ⟨b, o, c', he⟩ := hv2.opened (by omega)
      obtain ⟨rfl, rfl⟩ : a = some ⟨b, o, none⟩ ∧ c = c' := by simpa using he
      clear he
      obtain ⟨u, x0, x1, x2, x3, x4, q⟩ := hv2.get k hlt
      obtain ⟨ua, uc, rfl, -⟩ := q.len
      have hbl := cell_lt x0
      clear hv2 q
      have HB1 := Lib.hid (HB.out.alloc HB.out.size (.cells #[.int .i64 l[k].n, .int .i64 l[k].f, .int .i64 l[k].l, .int .i64 l[k].s, .slice ua l[k].o.length uc] 39))
      have hA := At.new wr #[.int .i64 l[k].n, .int .i64 l[k].f, .int .i64 l[k].l, .int .i64 l[k].s, .slice ua l[k].o.length uc] 39
      have e0 := hA.cell (i := 0) rfl
      clear hA HB
      by_cases hn : l[k].n = nm
      · have HF : Hid (R = k) := by unfold Hid; rw [← HR.out, findS_some hlt hn HA.out]
        have tb : (l[k].n == nm) = true := by simp [hn]
        generalize l[k] = X at *
        clear hn
        go_wp2
        refine bodyPost_ret (v := .int .i64 k) (by simp [results, Tryd.results15, go_sem]) rfl ⟨by rw [HF.out], HB1.out⟩
      · have HA2 := Lib.hid (more_ne hlt hn HA.out)
        have tb : (l[k].n == nm) = false := by simp [hn]
        generalize l[k] = X at *
        clear hn
        go_wp2
        go_roundw
        case rel => exact ⟨k + 1, by omega, by go_num, HA2, HB1⟩
        case measure => simp [intOf]; omega
    · obtain rfl : k = l.length := by omega
      have HA2 := HA.out
      rw [List.take_length] at HA2
      have HF : Hid (R = -1) := by unfold Hid; rw [← HR.out, findS_none HA2]
      clear HA HA2
      go_wp2
      refine bodyPost_ret (v := .int .i64 (-1)) (by simp [results, Tryd.results15, go_sem]) rfl ⟨by rw [HF.out], HB.out⟩
end Go.Proofs.YtpbkieeheepelaaDoor
