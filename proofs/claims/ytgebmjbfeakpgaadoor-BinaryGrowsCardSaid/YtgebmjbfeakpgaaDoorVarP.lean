/- The walks of package varint's numberBytes and Put: a loop over a function. -/
import Derived.Test.YtgebmjbfeakpgaaDoorRows
import Derived.Test.YtgebmjbfeakpgaaDoorVarA
import Derived.Test.YtgebmjbfeakpgaaDoorOpenBy
import Derived.RangeFuncBox
import Derived.RangeFuncLeaves
import Derived.Shelf.Abstract
import Derived.WalkKit
import Derived.OwnWalkIn
import Derived.TacticsInMore
import Derived.LoopNIn
import Derived.LoopIn
import Derived.Maps.AppendAt
import Derived.Laws.BitsAllLaws
namespace Go.Proofs.YtgebmjbfeakpgaaDoor.VPlain
end Go.Proofs.YtgebmjbfeakpgaaDoor.VPlain
namespace Go.Proofs.YtgebmjbfeakpgaaDoor
open Go.RowKit Go.Shelf VPlain

attribute [local go_sem] Oper.semAt_some

theorem byte_more (r : Nat) (h1 : r < 18446744073709551616) : ((r % 128 + 128 : Nat) : Int) = bits .or .u8 (bits .and .u64 (r : Int) 127 % 256) 128 := by
  have a := u64_and_nat r 127 h1 (by decide)
  rw [show (127 : Nat) = 2 ^ 7 - 1 from rfl, Nat.and_two_pow_sub_one_eq_mod] at a
  have a' : bits .and .u64 (r : Int) 127 = ((r % 128 : Nat) : Int) := a
  have b : ((r % 128 : Nat) : Int) % 256 = ((r % 128 : Nat) : Int) := by omega
  have c := u8_or_nat (r % 128) 128 (by omega) (by decide)
  rw [Nat.or_comm, nat_join 7 128 (r % 128) (by decide) (by omega)] at c
  have c' : bits .or .u8 ((r % 128 : Nat) : Int) 128 = ((128 + r % 128 : Nat) : Int) := c
  rw [a', b, c']
  omega

set_option maxRecDepth 100000 in
set_option maxHeartbeats 1000000 in
theorem bytes1_in (F : Fence) (n : Nat) (hf : F.fn 58) (hro : F.round = none) (hn : 1 ≤ n) (l Bn : Nat) (x : Nat) (hx : x < 18446744073709551616) (J Jx : List Nat → World → Prop)
    (hY : ∀ pre (c : Nat) W, J pre W → pre.length < (nb x).length → YieldAt F (n - 1) Tryd.prog l #[.int .u8 (c : Int)] W fun e W' =>
      (e = .returned (.bool true) ∧ J (pre ++ [c]) W' ∧ True) ∨ (e = .returned (.bool false) ∧ Jx (pre ++ [c]) W'))
    (W : World) (hBn : W.cell? ⟨Bn, 0, none⟩ = some (.int .u64 (x : Int))) (h0 : J [] W) :
    CallsIn F n Tryd.prog 58 #[.func (.yield l) #[] #[], .pointer (some ⟨Bn, 0, none⟩)] W fun e W' => (∃ v, e = .returned v) ∧
      ((∃ ys, ys = nb x ∧ J ys W') ∨ (∃ pre, pre <+: nb x ∧ Jx pre W')) := by
  refine callsIn_of_wp Tryd.func58 rfl hf ?_ hro
  simp only [Tryd.ntmps58, List.size_toArray, List.length_cons, List.length_nil, Nat.reduceAdd, Nat.reduceSub, Array.replicate_succ, Array.replicate_zero, List.push_toArray, List.append_toArray, List.nil_append, List.cons_append]
  gi_wp2
  gi_loopw [3] (fun p wr => ∃ (pre : List Nat) (r : Nat), p = .int .u64 (r : Int) ∧ r < 18446744073709551616 ∧ Hid (nb x = pre ++ nb r) ∧ J pre wr)
    (fun p _ => (intOf p).toNat)
  case atStart =>
    exact ⟨[], x, rfl, hx, rfl, h0⟩
  case round =>
    obtain ⟨pre, r, rfl, hr, HN, hJs⟩ := hrel
    have hpl : pre.length < (nb x).length := by have := nb_pos r; rw [HN.out, List.length_append]; omega
    by_cases hm : 128 ≤ r
    · have e1 : (127 : Int) < (r : Int) := by omega
      obtain ⟨fn, tmps, assign, body, hy, hR⟩ := hY pre (r % 128 + 128) wr hJs hpl
      rw [byte_more r hr] at hy
      have HN2 : Hid (nb x = (pre ++ [r % 128 + 128]) ++ nb (r / 128)) := by unfold Hid; rw [HN.out, nb_big hm]; simp
      gi_wp2
      refine hR.mono ?_
      rintro e W3 (⟨rfl, hJ3, _⟩ | ⟨rfl, hJx3⟩)
      · gi_wp2
        go_roundw
        case rel => exact ⟨pre ++ [r % 128 + 128], r / 128, by go_num, by omega, HN2, hJ3⟩
        case measure => simp [intOf]; omega
      · gi_wp2
        refine bodyPost_ret (results_none rfl _ _ _) rfl ?_
        exact ⟨⟨_, rfl⟩, .inr ⟨pre ++ [r % 128 + 128], ⟨nb (r / 128), HN2.out.symm⟩, hJx3⟩⟩
    · have e1 : ¬ (127 : Int) < (r : Int) := by omega
      have e2 : (r : Int) % 256 = (r : Int) := by omega
      obtain ⟨fn, tmps, assign, body, hy, hR⟩ := hY pre r wr hJs hpl
      have hN3 : nb x = pre ++ [r] := by rw [HN.out, nb_small (by omega)]
      gi_wp2
      refine hR.mono ?_
      rintro e W3 (⟨rfl, hJ3, _⟩ | ⟨rfl, hJx3⟩)
      · gi_wp2
        go_end0
        exact ⟨⟨_, rfl⟩, .inl ⟨pre ++ [r], hN3.symm, hJ3⟩⟩
      · gi_wp2
        go_end0
        exact ⟨⟨_, rfl⟩, .inr ⟨pre ++ [r], ⟨[], by rw [hN3, List.append_nil]⟩, hJx3⟩⟩

set_option maxHeartbeats 1000000 in
theorem bytes_in (F : Fence) (n : Nat) (hf : F.fn 38) (hro : F.round = none) (x : Int) (w : World) :
    CallsIn F n Tryd.prog 38 #[.int .u64 x] w fun e w' => e = .returned (.func (.func 58) #[] #[.pointer (some ⟨w.heap.size, 0, none⟩)]) ∧ w' = w.alloc (.cells #[.int .u64 x] 44) := by
  refine callsIn_of_wp Tryd.func38 rfl hf ?_ hro
  simp only [Tryd.ntmps38, List.size_toArray, List.length_cons, List.length_nil, Nat.reduceAdd, Nat.reduceSub, Array.replicate_succ, Array.replicate_zero, List.push_toArray, List.append_toArray, List.nil_append, List.cons_append]
  gi_wp2
  go_ret
  exact ⟨rfl, rfl⟩

theorem bytes_stops (F : Fence) (n : Nat) (hf : F.fn 58) (hro : F.round = none) (hn : 1 ≤ n) (Bn : Nat) (x : Nat) (hx : x < 18446744073709551616) (w : World) (hBn : Bn < w.heap.size) (hc : w.cell? ⟨Bn, 0, none⟩ = some (.int .u64 (x : Int))) :
    SeqStopsK F n Tryd.prog 58 #[.pointer (some ⟨Bn, 0, none⟩)] (fun c : Nat => #[Value.int .u8 (c : Int)]) (fun _ _ => True) (fun ys => ys = nb x) (fun pre => pre <+: nb x) (nb x).length w := fun l J Jx W hW _ _ hY h0 =>
  bytes1_in F n hf hro hn l Bn x hx J Jx hY W ((hW.cell (p := ⟨Bn, 0, none⟩) hBn).trans hc) h0

theorem infoB : (Tryd.prog.info? 5).map (fun i => (i.zero, i.size, i.bytes)) = some (some (.int .u8 0), 1, 1) := by kernel_rfl

set_option maxRecDepth 100000 in
set_option maxHeartbeats 2000000 in
theorem put_in (F : Fence) (n : Nat) (h3 : F.fn 19) (h4 : F.fn 38) (h5 : F.fn 58) (hro : F.round = none) (hn : 3 ≤ n) (x : Nat) (hx : x < 18446744073709551616) (w : World) :
    CallsIn F n Tryd.prog 19 #[.int .u64 (x : Int)] w fun e W' => ∃ v, e = .returned v ∧ W'.ownsRow w.heap.size 5 1 v (nb x).length (bs (nb x)) ∧ Below w.heap.size w W' := by
  have h1 : 1 ≤ n := by omega
  obtain ⟨i0, hi, hz0, hz1, hz2⟩ := info_parts infoB
  have hl10 := nb_len10 hx
  refine callsIn_of_wp_marks Tryd.func19 rfl h3 ?_ hro
  simp only [Tryd.ntmps19, List.size_toArray, List.length_cons, List.length_nil, Nat.reduceAdd, Nat.reduceSub, Array.replicate_succ, Array.replicate_zero, List.push_toArray, List.append_toArray, List.nil_append, List.cons_append]
  gi_wp2_with (gi_at_call 38; refine (bytes_in F (n - 1) h4 hro _ _).mono ?_; rintro e w' ⟨rfl, rfl⟩)
  have bO := Boxed.new w 22 (.slice none 0 0)
  have bN := Boxed.new (w.alloc (.cells #[.slice none 0 0] 22)) 44 (.int .u64 (x : Int))
  rw [World.size_alloc] at bN
  have hB0 : Below w.heap.size w ((w.alloc (.cells #[.slice none 0 0] 22)).alloc (.cells #[.int .u64 (x : Int)] 44)) := ((Below.refl _ w).alloc (Nat.le_refl _) _).alloc (by simp) _
  refine wpIn_rangeFunc_ownG hro h1 (gf := 58) (lb := #[.pointer (some ⟨w.heap.size + 1, 0, none⟩)]) rfl h5 (enters_of Tryd.func58 (by kernel_rfl) rfl)
    (bytes_stops F (n - 1) h5 hro (by omega) (w.heap.size + 1) x hx _ (by simp) bN.cell) (fun _ _ => trivial) (fun _ _ _ _ _ _ _ _ => trivial) (Below.refl _ _) (fun _ => rfl)
    (fun pre W => (∃ v, Boxed W w.heap.size 22 v ∧ W.ownsRow w.heap.size 5 1 v pre.length (bs pre) ∧ True) ∧ Below w.heap.size w W)
    (fun _ _ _ => False)
    (OwnFrom.and (Own.from (holdsRow_own w.heap.size w.heap.size 22 5 1 (fun pre : List Nat => pre.length) (fun pre => bs pre) (fun _ _ => True)) _) (ownFrom_below (Nat.le_refl _) (by simp; omega)))
    (fun _ _ _ _ _ hs _ _ => hs)
    ⟨⟨_, bO.alloc _, World.ownsRow_nil _ _ _ _, trivial⟩, hB0⟩
    (fun c => { tmps := #[.int .u64 (x : Int), undef, .slice none 0 0, .pointer (some ⟨w.heap.size, 0, none⟩), .int .u8 (c : Int), .int .u64 (x : Int), .func (.func 58) #[] #[.pointer (some ⟨w.heap.size + 1, 0, none⟩)], .int .u8 (c : Int), undef, undef, undef, undef, undef], defers := [] }) ?assign ?body ?done ?stop
  case assign =>
    intro l c W K hK
    gi_wp2
    exact hK
  case body =>
    rintro l pre c W ⟨⟨v, hv, hrow, _⟩, hB⟩ hlt
    have hc := hv.cell
    gi_wp2_with (gi_at_builtin; refine wpListIn_append_own _ rfl _ _ 22 rfl w.heap.size 5 i0 (.int .u8 0) 1 1 Tryd.underlying22 hi hz0 hz1 hz2 rfl (by decide) _ _ _ rfl (hrow.alloc _) ⟨W.heap.size, 0, none⟩ 1 1 [.int .u8 (c : Int)] rfl rfl (cell_one_new _ _ _) (by simp [Value.oneCell']) (by unfold maxLen; omega) (by omega) (by have := hB.size; simp; omega) ?_; intro v' w1 hown' hgrow _; obtain ⟨g', cap', rfl⟩ := ownsRow_succ hown'; obtain ⟨hv1, hv2, hr2, hk2, hb2⟩ := hv.appended (by decide) hrow hB.size (Nat.le_refl _) hown' hgrow; have hc1 := hv1.cell; have hf1 := hv1.frozen)
    exact ⟨hk2.from _, trivial, ⟨_, hv2, by simpa [bs] using hr2, trivial⟩, hB.trans hb2⟩
  case done =>
    rintro D ys W hD rfl ⟨⟨v, hv, hrow, _⟩, hB⟩ hK
    have hc := hv.cell
    gi_wp2
    refine ⟨by simp, .inl ⟨_, _, rfl, run_takeDeferred hK, ?_⟩⟩
    exact ⟨_, results_tmp rfl _ _ _, v, rfl, ownsRow_putObj hrow _ hK rfl, hB.trans (belowK_b (w := w) (Nat.le_refl _) W D _ _ (by simp at hD; omega) hK rfl rfl)⟩
  case stop =>
    rintro D c pre W _ _ h _
    exact h.elim

theorem put_any (x : Nat) (hx : x < 18446744073709551616) (w : World) :
    Calls Tryd.prog 19 #[.int .u64 (x : Int)] w fun e W' => ∃ v, e = .returned v ∧ W'.ownsRow w.heap.size 5 1 v (nb x).length (bs (nb x)) ∧ Below w.heap.size w W' :=
  callsIn_wide.1 (put_in Fence.wide 3 trivial trivial trivial rfl (Nat.le_refl _) x hx w)
end Go.Proofs.YtgebmjbfeakpgaaDoor
