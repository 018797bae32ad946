/- The walk of slices.Concat at two rows of events. -/
import Derived.Test.YtidgpphapehgnaaDoorPrpE
import Derived.Test.YtidgpphapehgnaaDoorKitD
import Derived.Test.YtidgpphapehgnaaDoorShelf
namespace Go.Proofs.YtidgpphapehgnaaDoor.WPlain
end Go.Proofs.YtidgpphapehgnaaDoor.WPlain
namespace Go.Proofs.YtidgpphapehgnaaDoor
open Go.RowKit WPlain

/-- slices.Grow(nil, n) -/
theorem grow_nilE (n : Nat) (h0 : 0 < n) (hn : n ≤ 65000) (w : World) :
    Calls Tryd.prog 27 #[.slice none 0 0, .int .i64 n] w fun e w' => ∃ v, e = .returned v ∧ w'.ownsRow w.heap.size 37 4 v 0 [] ∧ Below w.heap.size w w' := by
  obtain ⟨j0, hj0, hy0, hy1', hy2'⟩ := info_parts info37
  have hG : n ≤ maxLen := by unfold maxLen; omega
  have h := Any8.slices_Grow_grow Tryd.growE j0 (.agg #[.int .i64 0, .int .i64 0, .int .i64 0, .int .i64 0]) hj0 hy0 (by omega) none 0 0 n [] w (Nat.le_refl _) (by omega) (by rw [hy2']; omega) (by omega) (by simp) (fun _ => rfl) (fun a ha => by cases ha)
  refine h.mono fun e w' ⟨he, hw⟩ => ?_
  have hle := grownCap_le_maxLen w (0 + n) 0 37 (by unfold maxLen; omega)
  have hge := grownCap_ge w (0 + n) 0 37
  obtain ⟨G, hG⟩ : ∃ G, G = grownCap w (0 + n) 0 37 := ⟨_, rfl⟩
  have he' : e = .returned (.slice (some ⟨w.heap.size, 0, none⟩) 0 G) := by rw [hG]; exact he
  have hw' : w' = w.drew.alloc (.cells (([] : List Value).toArray ++ Builtin.zeroCells (Value.agg #[.int .i64 0, .int .i64 0, .int .i64 0, .int .i64 0]).cells (0 + n - 0) ++ Builtin.zeroCells (Value.agg #[.int .i64 0, .int .i64 0, .int .i64 0, .int .i64 0]).cells (G - (0 + n))) 37) := by rw [hG]; exact hw
  rw [← hG] at hle hge
  clear he hw hG
  refine ⟨_, he', ?_, ?_⟩
  · rw [hw']
    refine World.ownsRow_made (size := 4) (e := 37) (base := w.heap.size) w.drew _ _ (Nat.le_refl _) hle ?_
    have hcs : (Value.agg #[.int .i64 0, .int .i64 0, .int .i64 0, .int .i64 0]).cells.size = 4 := rfl
    simp [Builtin.zeroCells, hcs]
    omega
  · rw [hw']
    exact ((Below.refl w.heap.size w).drew).alloc (Nat.le_refl _) _
set_option maxRecDepth 100000 in
set_option maxHeartbeats 2000000 in
theorem concat2_any (B : Nat) (v0 v1 : Value) (l0 l1 : List Ev) (w : World) (c0 : w.cell? ⟨B, 0, none⟩ = some v0) (c1 : w.cell? ⟨B, 1, none⟩ = some v1)
    (r0 : Evs w v0 l0) (r1 : Evs w v1 l1) (s0 : Src v0) (s1 : Src v1) (h0 : l0.length ≤ 20000) (h1 : l1.length ≤ 20000) (hp : 0 < l1.length) :
    Calls Tryd.prog 15 #[.slice (some ⟨B, 0, none⟩) 2 2] w fun e w' => ∃ v, e = .returned v ∧ Src v ∧ Evs w' v (l0 ++ l1) ∧ Below w.heap.size w w' := by
  obtain ⟨a0, d0, rfl⟩ := r0.len
  obtain ⟨a1, d1, rfl⟩ := r1.len
  have R0 := Lib.hid r0
  have R1 := Lib.hid r1
  have S0 := Lib.hid s0
  have S1 := Lib.hid s1
  have hcl0 := evsCells_len l0
  have C0 := Lib.hid c0
  have C1 := Lib.hid c1
  have hB : B < w.heap.size := World.block_lt_of_cell? w _ c0
  clear r0 r1 s0 s1 hcl0
  generalize hn0 : l0.length = n0 at *
  generalize hn1 : l1.length = n1 at *
  have HN0 := Lib.hid hn0
  have HN1 := Lib.hid hn1
  clear hn0 hn1
  go_enter Tryd.func15, Tryd.ntmps15
  go_wp2_with fail
  go_loop [3, 11] (fun s i => (i = .int .i64 0 ∧ s = .int .i64 0) ∨ (i = .int .i64 1 ∧ s = .int .i64 (n0 : Int)) ∨ (i = .int .i64 2 ∧ s = .int .i64 ((n0 + n1 : Nat) : Int))) (fun _ i => 2 - (intOf i).toNat)
  case atStart => exact .inl ⟨rfl, rfl⟩
  case round =>
    rcases hrel with ⟨rfl, rfl⟩ | ⟨rfl, rfl⟩ | ⟨rfl, rfl⟩
    · go_wp2
      go_round
      case rel => exact .inr (.inl ⟨by go_num, by go_num⟩)
      case measure => simp [intOf]
    · go_wp2
      go_round
      case rel => exact .inr (.inr ⟨by go_num, by go_num⟩)
      case measure => simp [intOf]
    · go_wp2_with fail
      refine (grow_nilE (n0 + n1) (by omega) (by omega) _).mono ?_
      rintro e w1 ⟨v, rfl, ho, hb⟩
      obtain ⟨ga, gc, rfl⟩ := row_slice ho
      clear c0 c1
      go_wp2_with fail
      go_loopw [6, 27] (fun y i wr => ((i = .int .i64 0 ∧ wr.ownsRow w.heap.size 37 4 y 0 []) ∨ (i = .int .i64 1 ∧ wr.ownsRow w.heap.size 37 4 y n0 (evsCells l0)) ∨ (i = .int .i64 2 ∧ wr.ownsRow w.heap.size 37 4 y (n0 + n1) (evsCells l0 ++ evsCells l1))) ∧ Below w.heap.size w wr) (fun _ i _ => 2 - (intOf i).toNat)
      case atStart => exact ⟨.inl ⟨rfl, ho⟩, hb⟩
      case round =>
        clear ho hb
        obtain ⟨hrel, hb⟩ := hrel
        have c0 := (hb.cell (p := ⟨B, 0, none⟩) hB).trans C0.out
        have c1 := (hb.cell (p := ⟨B, 1, none⟩) hB).trans C1.out
        have hbs := hb.size
        rcases hrel with ⟨rfl, ho⟩ | ⟨rfl, ho⟩ | ⟨rfl, ho⟩
        · go_wp2_with (at_builtin; refine wpList_append_src rfl _ _ rfl w.heap.size _ 0 [] rfl ho _ l0 rfl (R0.out.below hb (Nat.le_refl _)) S0.out (by rw [HN0.out]; omega) hbs ?_)
          intro v2 w2 ho2 hg2
          rw [HN0.out] at ho2
          have hb2 := hb.grown hg2 hbs (fun k hk => (ho.lt k hk).1)
          clear ho hb c0 c1 hbs hg2
          go_wp2
          go_roundw
          case rel => exact ⟨.inr (.inl ⟨by go_num, by simpa using ho2⟩), hb2⟩
          case measure => simp [intOf]
        · go_wp2_with (at_builtin; refine wpList_append_src rfl _ _ rfl w.heap.size _ n0 (evsCells l0) rfl ho _ l1 rfl (R1.out.below hb (Nat.le_refl _)) S1.out (by rw [HN1.out]; omega) hbs ?_)
          intro v2 w2 ho2 hg2
          rw [HN1.out] at ho2
          have hb2 := hb.grown hg2 hbs (fun k hk => (ho.lt k hk).1)
          clear ho hb c0 c1 hbs hg2
          go_wp2
          go_roundw
          case rel => exact ⟨.inr (.inr ⟨by go_num, ho2⟩), hb2⟩
          case measure => simp [intOf]
        · obtain ⟨ya, yc, rfl⟩ := row_slice ho
          have HO := Lib.hid ho
          clear ho
          go_wp2
          go_ret
          refine ⟨_, rfl, Src.of_row HO.out, ?_, hb⟩
          have h2 := HO.out
          have he : evsCells l0 ++ evsCells l1 = evsCells (l0 ++ l1) := by simp [evsCells]
          rw [he, show n0 + n1 = (l0 ++ l1).length by rw [List.length_append, HN0.out, HN1.out]] at h2
          rw [show n0 + n1 = (l0 ++ l1).length by rw [List.length_append, HN0.out, HN1.out]]
          exact Evs.of_row h2
end Go.Proofs.YtidgpphapehgnaaDoor
