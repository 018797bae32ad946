/- The walks of the law's alive, and of Ints at rows of places. -/
import Derived.Test.YtgjljcmmfechoaaExtJ
import Derived.Test.YtgjljcmmfechoaaExtO
import Derived.Test.YtgjljcmmfechoaaWalkG
namespace Go.Proofs.Ytgjljcmmfechoaa.RPlain
end Go.Proofs.Ytgjljcmmfechoaa.RPlain
namespace Go.Proofs.Ytgjljcmmfechoaa
open Go.RowKit RPlain

theorem belowDrewN {w : World} {n : Nat} : Below w.heap.size w (w.drewN n) := ⟨rfl, rfl, rfl, Nat.le_refl _, fun _ _ => rfl⟩
theorem intsN_any (v1 v2 : Value) (L : List Nat) (w : World) (h1 : Rd w v1 (nats L)) (h2 : Rd w v2 (nats L)) (hl : L.length ≤ 65536) :
    Calls Try.prog 11 #[v1, v2] w fun e w' => e = .returned (.bool true) ∧ Below w.heap.size w w' := by
  have he : nats L = (L.map fun (x : Nat) => (x : Int)).map (.int .i64) := by simp [nats, Function.comp_def]
  rw [he] at h1 h2
  refine (ints_same _ v1 v2 w (by simp; omega) h1 h2).mono ?_
  rintro e w' ⟨rfl, n, rfl⟩
  exact ⟨rfl, belowDrewN⟩
theorem may_alive : mayE [4, 0, 0] = 0 := by decide
theorem all_alive : allS [4, 0, 0] = [[0, 1, 2], [0, 2, 1], [1, 0, 2]] := by decide
set_option maxRecDepth 100000 in
set_option maxHeartbeats 1000000 in
theorem aliveE_any (w : World) : Calls Try.prog 9 #[] w fun e w' => e = .returned (.bool true) ∧ Below w.heap.size w w' := by
  have hba : Below w.heap.size w (w.alloc (.cells #[.int .u32 4, .int .u32 0, .int .u32 0] 37)) := (Below.refl _ w).alloc (Nat.le_refl _) _
  have hrd : Rd (w.alloc (.cells #[.int .u32 4, .int .u32 0, .int .u32 0] 37)) (.slice (some ⟨w.heap.size, 0, none⟩) 3 3) (u32s [4, 0, 0]) := Rd.of_at (L := u32s [4, 0, 0]) 3 (At.new w _ _)
  have hall := all_any (some ⟨w.heap.size, 0, none⟩) 3 [4, 0, 0] (w.alloc (.cells #[.int .u32 4, .int .u32 0, .int .u32 0] 37)) hrd (by decide) (by decide)
  rw [may_alive, if_pos rfl, all_alive] at hall
  have HALL := Lib.hid hall
  have HBA := Lib.hid hba
  clear hall hba hrd
  go_enter Try.func9, Try.ntmps9
  go_wp2_with fail
  refine HALL.out.mono ?_
  rintro e w1 ⟨v, vs, rfl, hv, ⟨X, hvs1, hvs2⟩, hb⟩
  have hl3 : vs.length = 3 := hvs1
  obtain ⟨b, o, c, rfl, hbl, hc⟩ := hv.opened (by omega)
  have h2 := hvs2 2 (by decide) (by omega)
  have hr2 := h2.rd
  obtain ⟨va, vc, hv2⟩ := hr2.len
  have hc2 := hc 2 _ (List.getElem?_eq_getElem (by omega))
  rw [hv2] at hc2 hr2
  have hb1 := HBA.out.trans (hb.mono HBA.out.size)
  have hbn : Below w1.heap.size w1 (w1.alloc (.cells #[.int .i64 1, .int .i64 0, .int .i64 2] 3)) := (Below.refl _ w1).alloc (Nat.le_refl _) _
  have hin := intsN_any (.slice va (nats [1, 0, 2]).length vc) (.slice (some ⟨w1.heap.size, 0, none⟩) 3 3) [1, 0, 2] (w1.alloc (.cells #[.int .i64 1, .int .i64 0, .int .i64 2] 3)) (hr2.below hbn (Nat.le_refl _)) (Rd.of_at (L := nats [1, 0, 2]) 3 (At.new w1 _ _)) (by decide)
  have HIN := Lib.hid hin
  have HBW := Lib.hid (hb1.trans (hbn.mono hb1.size))
  have hn3 : (nats [1, 0, 2]).length = 3 := rfl
  rw [hl3]
  rw [hn3] at HIN
  have hc2' : w1.cell? ⟨b, o + 2, none⟩ = some (.slice va 3 vc) := hc2
  clear hc h2 hr2 hc2 hv hin hbn hb hb1 hv2 hvs1 hvs2 hn3
  go_wp2_with (go_at_call 11; refine HIN.out.mono ?_; rintro e w2 ⟨rfl, hb2⟩; have HB2 := Lib.hid hb2; clear hb2)
  go_ret
  exact ⟨rfl, HBW.out.trans (HB2.out.mono HBW.out.size)⟩
end Go.Proofs.Ytgjljcmmfechoaa
