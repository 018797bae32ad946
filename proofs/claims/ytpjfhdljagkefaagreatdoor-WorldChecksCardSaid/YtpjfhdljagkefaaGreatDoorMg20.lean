/- Merged: WorO, WorD. -/
import Derived.Test.YtpjfhdljagkefaaGreatDoorMg19
import Derived.Test.YtpjfhdljagkefaaGreatDoorMg7
import Derived.Test.YtpjfhdljagkefaaGreatDoorMg14
import Derived.Test.YtpjfhdljagkefaaGreatDoorMg3
import Derived.Test.YtpjfhdljagkefaaGreatDoorMg4
import Derived.Test.YtpjfhdljagkefaaGreatDoorMg15
import Derived.Deep.QuietTactic
import Derived.BigQuiet
/- Plain words: budgets' rests of the others and of a choice; the order of the transactions anew: it lies apart from whatever lay there; package world's traceOf. -/
namespace Go.Proofs.YtpjfhdljagkefaaGreatDoor.WPlain
end Go.Proofs.YtpjfhdljagkefaaGreatDoor.WPlain
namespace Go.Proofs.YtpjfhdljagkefaaGreatDoor.QPlain
end Go.Proofs.YtpjfhdljagkefaaGreatDoor.QPlain
namespace Go.Proofs.YtpjfhdljagkefaaGreatDoor.RPlain
end Go.Proofs.YtpjfhdljagkefaaGreatDoor.RPlain
namespace Go.Proofs.YtpjfhdljagkefaaGreatDoor.RPlain
open WPlain QPlain

theorem ownW_shift {B d : Nat} {l : List Tx} {c : Nat} : ∀ (ts : List Nat) (s : Nat), ownG (B + d) l c ts (s + d) = ((ownG B l c ts s).1, (ownG B l c ts s).2.1, (ownG B l c ts s).2.2 + d) := by
  intro ts
  induction ts with
  | nil => intro s; rfl
  | cons t r ih =>
    intro s
    have h1 : oneS (B + d) l t c (s + d) = shF d (oneS B l t c s) := oneW_shift _ s
    rw [ownG, ownG]
    by_cases hc : c.testBit t = true
    · rw [if_pos hc, if_pos hc]; exact ih s
    · rw [if_neg hc, if_neg hc, h1]
      unfold shF
      simp only
      by_cases hv : (oneS B l t c s).1 ≠ 0
      · rw [if_pos hv, if_pos hv]
      · rw [if_neg hv, if_neg hv, ih]
        by_cases hw : (ownG B l c r (oneS B l t c s).2.2.2).1 ≠ 0
        · rw [if_pos hw, if_pos hw]
        · rw [if_neg hw, if_neg hw]
          simp only
          rw [Nat.add_sub_add_right]
theorem choiceW_left {B s : Nat} (hs : s ≤ B) (l : List Tx) (c : Nat) : choiceW B l c s = ((choiceW (B - s) l c 0).1, (choiceW (B - s) l c 0).2.1, (choiceW (B - s) l c 0).2.2.1, s + (choiceW (B - s) l c 0).2.2.2) := by
  rw [choiceW_step hs, choiceW_step (Nat.zero_le (B - s)), Nat.sub_zero, Nat.zero_add]
  generalize searchG (B - s) l (fun _ => c) [c] 0 = x
  have h1 := ownW_shift (B := B - s) (d := s) (l := l) (c := c) (List.range l.length) x.2.2.2
  rw [Nat.sub_add_cancel hs, Nat.add_comm x.2.2.2 s] at h1
  rw [h1]
  by_cases hv : x.1 ≠ 0
  · rw [if_pos hv, if_pos hv]
  · rw [if_neg hv, if_neg hv]
    by_cases hw : (ownG (B - s) l c (List.range l.length) x.2.2.2).1 ≠ 0
    · rw [if_pos hw, if_pos hw]
      simp only
      rw [Nat.add_comm s]
    · rw [if_neg hw, if_neg hw]
      simp only
      rw [Nat.add_comm s]
/-- what is found of the others, behind some of them -/
def joinO (acc : List (Nat × List Nat × Nat)) (T : Nat × List (Nat × List Nat × Nat) × Nat) : Nat × List (Nat × List Nat × Nat) × Nat := if T.1 ≠ 0 then (T.1, [], T.2.2) else (0, acc ++ T.2.1, T.2.2)
theorem joinO_nil (B : Nat) (l : List Tx) (c : Nat) (ts : List Nat) (s : Nat) : joinO [] (ownG B l c ts s) = ownG B l c ts s := by
  have hn : ∀ ts s, (ownG B l c ts s).1 ≠ 0 → (ownG B l c ts s).2.1 = [] := by
    intro ts
    induction ts with
    | nil => intro s h; exact absurd rfl h
    | cons t r ih =>
      intro s h
      rw [ownG] at h ⊢
      by_cases hc : c.testBit t = true
      · rw [if_pos hc] at h ⊢; exact ih s h
      · rw [if_neg hc] at h ⊢
        by_cases hv : (oneS B l t c s).1 ≠ 0
        · rw [if_pos hv]
        · rw [if_neg hv] at h ⊢
          by_cases hw : (ownG B l c r (oneS B l t c s).2.2.2).1 ≠ 0
          · rw [if_pos hw]
          · rw [if_neg hw] at h; exact absurd rfl h
  unfold joinO
  by_cases h : (ownG B l c ts s).1 ≠ 0
  · rw [if_pos h, ← hn ts s h]
  · rw [if_neg h, List.nil_append]
    have h0 : (ownG B l c ts s).1 = 0 := by simpa using h
    rw [← h0]
theorem joinO_join (acc bcc : List (Nat × List Nat × Nat)) (T : Nat × List (Nat × List Nat × Nat) × Nat) : joinO acc (joinO bcc T) = joinO (acc ++ bcc) T := by
  unfold joinO
  by_cases h : T.1 ≠ 0
  · rw [if_pos h, if_pos h, if_pos h]
  · rw [if_neg h, if_neg h, if_neg (by simp), List.append_assoc]
theorem ownW_join {B : Nat} {l : List Tx} {c t s : Nat} (hs : s ≤ B) (hc : c.testBit t = false) (r : List Nat) :
    ownG B l c (t :: r) s = if (oneS (B - s) l t c 0).1 ≠ 0 then ((oneS (B - s) l t c 0).1, [], s + (oneS (B - s) l t c 0).2.2.2)
      else joinO [((oneS (B - s) l t c 0).2.1, (oneS (B - s) l t c 0).2.2.1, (oneS (B - s) l t c 0).2.2.2)] (ownG B l c r (s + (oneS (B - s) l t c 0).2.2.2)) := by
  rw [ownW_step hs hc]
  unfold joinO
  rfl
theorem one_bounds {B : Nat} {l : List Tx} {t c : Nat} : ((oneS B l t c 0).1 = 0 ∨ (oneS B l t c 0).1 = 1 ∨ (oneS B l t c 0).1 = 2) ∧ (oneS B l t c 0).2.2.2 ≤ B := by
  obtain ⟨h1, _, h3, _⟩ := one_tells (B := B) (l := l) (t := t) (c := c) (pairsW l t c) 0 (Nat.zero_le _)
  exact ⟨h1, h3⟩
end Go.Proofs.YtpjfhdljagkefaaGreatDoor.RPlain
namespace Go.Proofs.YtpjfhdljagkefaaGreatDoor
open Go.RowKit WPlain QPlain RPlain

attribute [local go_sem] Oper.semAt_some

set_option maxRecDepth 100000 in
set_option maxHeartbeats 4000000 in
theorem afterX_ok (v : Value) (h : List Ev) (w : World) (hK : HasK w) (hv : Evs w v h) (hl : h.length ≤ 65536) (h0 : (checkS h).2 = 0) :
    Calls Tryz.prog 35 #[v] w fun e w' => ∃ v', e = .returned (.tuple #[v', .int .i64 0]) ∧ RdX (fun k => k < w.heap.size) w' v' (u32s (afterS (tableS h))) ∧ Below w.heap.size w w' := by
  have HT := Lib.hid (table_any v h w hK hv hl)
  rw [h0, if_pos rfl] at HT
  have hsix := table_six h0
  generalize tableS h = l at *
  obtain ⟨n, hn⟩ : ∃ n, l.length = n := ⟨_, rfl⟩
  have HN := Lib.hid hn
  have hmk := run_make_row' (P := Tryz.prog) 46 23 (.int .u32 0) 4 Tryz.underlying46 infoU rfl .i64 .i64 n (by omega) (by omega)
  clear h0 hv hK hl
  refine (callsIn_wide (n := 5)).1 ?_
  refine callsIn_of_wp_marks Tryz.func35 rfl trivial ?_ rfl
  simp only [Tryz.ntmps35, List.size_toArray, List.length_cons, List.length_nil, Nat.reduceAdd, Nat.reduceSub, Array.replicate_succ, Array.replicate_zero, List.push_toArray, List.append_toArray, List.nil_append, List.cons_append]
  gi_wp2_with (first | (refine ⟨trivial, ?_⟩; gi_at_call 56; refine (callsIn_wide.2 HT.out).mono ?_; clear HT; rintro e w1 ⟨v1, rfl, hv1, hb1⟩; obtain ⟨a1, c1, rfl⟩ := hv1.len; rw [hn] at hv1 ⊢) | (refine ⟨trivial, ?_⟩; gi_at_call 57; refine (pairs_in _ _ trivial rfl _ _).mono ?_; rintro e w' ⟨rfl, rfl⟩))
  have HV1 := Lib.hid hv1
  have HB1 := Lib.hid hb1
  have hI0 : Aft w1 a1 n c1 l [] ((((w1.alloc (.cells #[.slice a1 n c1] 31)).alloc (.cells (madeCells #[.int .u32 0] n) 23)).alloc (.cells #[.slice (some ⟨w1.heap.size + 1, 0, none⟩) n n] 46)).alloc (.cells #[.int .i64 (n : Int)] 3)) := by
    refine ⟨((((At.new w1 _ _).alloc _).alloc _).alloc _), ?_, ?_, ?_, ((((Below.refl w1.heap.size w1).alloc (Nat.le_refl _) _).alloc (by simp) _).alloc (by simp; omega) _).alloc (by simp; omega) _⟩
    · rw [accL_start l n]
      exact ((At.new (w1.alloc (.cells #[.slice a1 n c1] 31)) _ _).alloc _).alloc _ |> fun h => by simpa using h
    · have h := (At.new ((w1.alloc (.cells #[.slice a1 n c1] 31)).alloc (.cells (madeCells #[.int .u32 0] n) 23)) #[.slice (some ⟨w1.heap.size + 1, 0, none⟩) n n] 46).alloc (.cells #[.int .i64 (n : Int)] 3)
      simpa using h
    · have h := At.new (((w1.alloc (.cells #[.slice a1 n c1] 31)).alloc (.cells (madeCells #[.int .u32 0] n) 23)).alloc (.cells #[.slice (some ⟨w1.heap.size + 1, 0, none⟩) n n] 46)) #[.int .i64 (n : Int)] 3
      simpa using h
  have hsz : ((((w1.alloc (.cells #[.slice a1 n c1] 31)).alloc (.cells (madeCells #[.int .u32 0] n) 23)).alloc (.cells #[.slice (some ⟨w1.heap.size + 1, 0, none⟩) n n] 46)).alloc (.cells #[.int .i64 (n : Int)] 3)).heap.size = w1.heap.size + 4 := by simp
  generalize ((((w1.alloc (.cells #[.slice a1 n c1] 31)).alloc (.cells (madeCells #[.int .u32 0] n) 23)).alloc (.cells #[.slice (some ⟨w1.heap.size + 1, 0, none⟩) n n] 46)).alloc (.cells #[.int .i64 (n : Int)] 3)) = W0 at *
  refine wpIn_rangeFunc_ownG rfl (by decide) (gf := 81) (lb := #[.pointer (some ⟨w1.heap.size + 1 + 1 + 1, 0, none⟩)]) rfl trivial (enters_of Tryz.func81 (by kernel_rfl) rfl)
    (pairs_stops Fence.wide _ trivial rfl (by decide) (w1.heap.size + 1 + 1 + 1) n (by omega) W0 (by omega) (hI0.2.2.2.1.cell rfl)) (fun hx hy v hv => hy v (hx v hv))
    (fun W l o o' hl h h1 h2 v hv => ((belowK_b (Nat.le_refl _) W l o o' hl h h1 h2).cell (p := ⟨_, 0, none⟩) (by simp; omega)).trans hv) (Below.refl _ _) (fun _ => rfl)
    (Aft w1 a1 n c1 l) (fun _ _ _ => False) (Aft.own w1 a1 n c1 l (by omega)) (fun _ _ _ _ _ hs _ _ => hs) hI0
    (fun x => { tmps := #[v, undef, .slice none 0 0, .int .i64 0, .pointer (some ⟨w1.heap.size, 0, none⟩), .int .i64 0, .pointer (some ⟨w1.heap.size + 1 + 1, 0, none⟩), .int .i64 (x.1.val : Int), .int .i64 (x.2.val : Int), .tuple #[.slice a1 n c1, .int .i64 0], v, .tuple #[.slice a1 n c1, .int .i64 0], .slice a1 n c1, .int .i64 0, .int .i64 0, .bool false, undef, .slice a1 n c1, .int .i64 n, .slice (some ⟨w1.heap.size + 1, 0, none⟩) n n, .slice a1 n c1, .int .i64 n, .func (.func 81) #[] #[.pointer (some ⟨w1.heap.size + 1 + 1 + 1, 0, none⟩)], .int .i64 (x.1.val : Int), .int .i64 (x.2.val : Int), undef, undef, undef, undef, undef, undef, undef, undef, undef, undef, undef, undef, undef, undef, undef, undef, undef, undef], defers := [] }) ?assign ?body ?done ?stop
  case assign =>
    intro l c W K hK
    gi_wp2
    exact hK
  case body =>
    rintro l' pre ⟨⟨i, hin⟩, ⟨k, hkn⟩⟩ W ⟨g1, g2, g3, g4, g5⟩ hlt
    dsimp only
    gi_wp2
    have hT := HV1.out.below g5 (Nat.le_refl _)
    have hi : i < l.length := by omega
    have hk : k < l.length := by omega
    have hbx := bfrAt_get hi hk
    obtain ⟨b, o, c', he⟩ := hT.opened (by omega)
    simp only [Value.slice.injEq] at he
    obtain ⟨rfl, -, rfl⟩ := he
    obtain ⟨u, x0, x1, x2, x3, x4, q⟩ := hT.get i hi
    obtain ⟨u', y0, y1, y2, y3, y4, q'⟩ := hT.get k hk
    obtain ⟨ua, uc, rfl, -⟩ := q.len
    obtain ⟨va, vc, rfl, -⟩ := q'.len
    have hcx := g1.cell (i := 0) rfl
    generalize l[i] = X at *
    generalize l[k] = Y at *
    refine region_round (LdS w1.heap.size b o n c1 i k X.n X.f X.l X.s (.slice ua X.o.length uc) Y.n Y.f Y.l Y.s (.slice va Y.o.length vc)) (by kernel_rfl) (by kernel_rfl) (by rintro ⟨_, _, hh⟩; exact hh) ?_
    have hS : LdS w1.heap.size b o n c1 i k X.n X.f X.l X.s (.slice ua X.o.length uc) Y.n Y.f Y.l Y.s (.slice va Y.o.length vc) W.drew := ⟨hcx, ⟨x0, x1, x2, x3, x4⟩, ⟨y0, y1, y2, y3, y4⟩⟩
    have hbw := isBefore_any X Y ua va X.o.length Y.o.length uc vc W.drew
    refine wpAnyH_take (i := 0) (v := .slice (some ⟨b, o, none⟩) n c1) rfl (by kernel_rfl) (by kernel_rfl) (by kernel_rfl) (fun _ _ _ h => h) (Or.inl ⟨by rfl, fun w' hw' => by obtain ⟨z, -, -⟩ := hw'; go_simp⟩) hS ?_
    simp only [Act.put, List.setIfInBounds_toArray]
    refine wpAnyH_take (i := 1) (v := .int .i64 (i : Int)) rfl (by kernel_rfl) (by kernel_rfl) (by kernel_rfl) (fun _ _ _ h => h) (Or.inl ⟨by rfl, fun w' hw' => by go_simp⟩) hS ?_
    simp only [Act.put]
    refine wpAnyH_take (i := 2) (v := .pointer (some ⟨b, o + i * 5, none⟩)) rfl (by kernel_rfl) (by kernel_rfl) (by kernel_rfl) (fun _ _ _ h => h) (Or.inl ⟨by rfl, fun w' hw' => by go_simp⟩) hS ?_
    simp only [Act.put]
    refine wpAnyH_take (i := 3) (v := .agg #[.int .i64 X.n, .int .i64 X.f, .int .i64 X.l, .int .i64 X.s, .slice ua X.o.length uc]) rfl (by kernel_rfl) (by kernel_rfl) (by kernel_rfl) (fun _ _ _ h => h) (Or.inl ⟨by rfl, fun w' hw' => by obtain ⟨-, ⟨z0, z1, z2, z3, z4⟩, -⟩ := hw'; go_simp⟩) hS ?_
    simp only [Act.put]
    refine wpAnyH_take (i := 4) (v := .slice (some ⟨b, o, none⟩) n c1) rfl (by kernel_rfl) (by kernel_rfl) (by kernel_rfl) (fun _ _ _ h => h) (Or.inl ⟨by rfl, fun w' hw' => by obtain ⟨z, -, -⟩ := hw'; go_simp⟩) hS ?_
    simp only [Act.put]
    refine wpAnyH_take (i := 5) (v := .int .i64 (k : Int)) rfl (by kernel_rfl) (by kernel_rfl) (by kernel_rfl) (fun _ _ _ h => h) (Or.inl ⟨by rfl, fun w' hw' => by go_simp⟩) hS ?_
    simp only [Act.put]
    refine wpAnyH_take (i := 6) (v := .pointer (some ⟨b, o + k * 5, none⟩)) rfl (by kernel_rfl) (by kernel_rfl) (by kernel_rfl) (fun _ _ _ h => h) (Or.inl ⟨by rfl, fun w' hw' => by go_simp⟩) hS ?_
    simp only [Act.put]
    refine wpAnyH_take (i := 7) (v := .agg #[.int .i64 Y.n, .int .i64 Y.f, .int .i64 Y.l, .int .i64 Y.s, .slice va Y.o.length vc]) rfl (by kernel_rfl) (by kernel_rfl) (by kernel_rfl) (fun _ _ _ h => h) (Or.inl ⟨by rfl, fun w' hw' => by obtain ⟨-, -, ⟨z0, z1, z2, z3, z4⟩⟩ := hw'; go_simp⟩) hS ?_
    simp only [Act.put]
    refine wpAnyH_ready (rs := [8]) (by kernel_rfl) (by simp) (AllReadyH.cons rfl (fun K hK => ?_) AllReadyH.nil)
    go_simp
    refine hbw.mono ?_
    rintro e w2 ⟨rfl, hb2⟩
    refine hK.out _ _ (hS.later hb2) (fun _ => wpAnyH_done (by kernel_rfl) ?_ _)
    clear hbw hS hK
    have HBW : Hid (Below W.heap.size W w2) := ((Below.refl W.heap.size W).drew).trans hb2
    have HG := Lib.hid (Aft.later (l := l) (pre := pre) (W := W) (W' := w2) ⟨g1, g2, g3, g4, g5⟩ HBW.out)
    clear g1 g2 g3 g4 hb2 x0 x1 x2 x3 x4 y0 y1 y2 y3 y4 q q' hT hcx
    cases hbf : bfr X Y with
    | false =>
      rw [hbf] at hbx
      gi_wp2
      refine ⟨keeps_below HBW.out, kp_below HBW.out, ?_⟩
      unfold Aft
      rw [accL_skip pre (⟨i, hin⟩, ⟨k, hkn⟩) hbx]
      exact HG.out
    | true =>
      rw [hbf] at hbx
      have hcb := HG.out.2.2.1.cell (i := 0) rfl
      have hca := HG.out.2.1.cell (accL_get l pre hin)
      have hkb := bit_any k (by omega)
      have hlt2 : accF (bfrAt l) i pre < 4294967296 := Nat.lt_of_lt_of_le (accF_lt (bfrAt l) i pre) (Nat.pow_le_pow_right (n := 2) (i := n) (j := 32) (by decide) (by omega))
      have hlt3 : 2 ^ k < 4294967296 := Nat.pow_lt_pow_right (a := 2) (m := k) (n := 32) (by decide) (by omega)
      have hor := u32_or_nat _ _ hlt2 hlt3
      have hfin := accL_set pre (⟨i, hin⟩, ⟨k, hkn⟩) hbx
      dsimp only at hfin
      obtain ⟨pw, hpw⟩ : ∃ pw, 2 ^ k = pw := ⟨_, rfl⟩
      rw [hpw] at hkb hlt3 hor hfin
      have HFIN := Lib.hid hfin
      clear hpw hfin hbx
      gi_wp2
      refine region_round (fun w' => w'.cell? ⟨w1.heap.size + 1 + 1, 0, none⟩ = some (.slice (some ⟨w1.heap.size + 1, 0, none⟩) n n)) (by kernel_rfl) (by kernel_rfl) (by rintro ⟨_, _, hh⟩; exact hh) ?_
      have hS : w2.drew.cell? ⟨w1.heap.size + 1 + 1, 0, none⟩ = some (.slice (some ⟨w1.heap.size + 1, 0, none⟩) n n) := hcb
      have hca2 : w2.drew.cell? ⟨w1.heap.size + 1, i, none⟩ = some (.int .u32 (accF (bfrAt l) i pre : Nat)) := hca
      have hst : w2.drew.frozen? ⟨w1.heap.size + 1, i, none⟩ = false := HG.out.2.1.free i
      have HSS : Hid (((w2.drew.setCell ⟨w1.heap.size + 1, i, none⟩ (.int .u32 ((accF (bfrAt l) i pre ||| pw : Nat) : Int))).cell? ⟨w1.heap.size + 1 + 1, 0, none⟩ = some (.slice (some ⟨w1.heap.size + 1, 0, none⟩) n n))) := by
        unfold Hid
        rw [World.cell?_setCell_far _ _ _ _ (by simp)]
        exact hcb
      generalize accF (bfrAt l) i pre = ac at *
      refine wpAnyH_take (i := 0) (v := .slice (some ⟨w1.heap.size + 1, 0, none⟩) n n) rfl (by kernel_rfl) (by kernel_rfl) (by kernel_rfl) (fun _ _ _ h => h) (Or.inl ⟨by rfl, fun w' hw' => by go_simp⟩) hS ?_
      simp only [Act.put, List.setIfInBounds_toArray]
      refine wpAnyH_take (i := 1) (v := .int .i64 (i : Int)) rfl (by kernel_rfl) (by kernel_rfl) (by kernel_rfl) (fun _ _ _ h => h) (Or.inl ⟨by rfl, fun w' hw' => by go_simp⟩) hS ?_
      simp only [Act.put]
      refine wpAnyH_take (i := 2) (v := .pointer (some ⟨w1.heap.size + 1, i, none⟩)) rfl (by kernel_rfl) (by kernel_rfl) (by kernel_rfl) (fun _ _ _ h => h) (Or.inl ⟨by rfl, fun w' hw' => by go_simp⟩) hS ?_
      simp only [Act.put]
      refine wpAnyH_take (i := 4) (v := .int .i64 (k : Int)) rfl (by kernel_rfl) (by kernel_rfl) (by kernel_rfl) (fun _ _ _ h => h) (Or.inl ⟨by rfl, fun w' hw' => by go_simp⟩) hS ?_
      simp only [Act.put]
      refine wpAnyH_ready (rs := [3, 5]) (by kernel_rfl) (by simp) (AllReadyH.cons rfl (fun K hK => ?_) (AllReadyH.cons rfl (fun K hK => ?_) AllReadyH.nil))
      · go_simp
        refine hK.out _ _ hS (fun _ => ?_)
        clear hK K
        refine wpAnyH_ready (rs := [5]) (by kernel_rfl) (by simp) (AllReadyH.cons rfl (fun K hK => ?_) AllReadyH.nil)
        go_simp
        refine (hkb _).mono ?_
        rintro e w3 ⟨rfl, rfl⟩
        refine hK.out _ _ hS (fun _ => ?_)
        clear hK K
        refine wpAnyH_take (i := 6) (v := .int .u32 ((ac ||| pw : Nat) : Int)) rfl (by kernel_rfl) (by kernel_rfl) (by kernel_rfl) (fun _ _ _ h => h) (Or.inl ⟨by rfl, fun w' hw' => by go_simp⟩) hS ?_
        simp only [Act.put]
        refine wpAnyH_take (i := 7) (v := .pointer (some ⟨w1.heap.size + 1, i, none⟩)) rfl (by kernel_rfl) (by kernel_rfl) (by kernel_rfl) (fun _ _ _ h => h) (Or.inl ⟨by rfl, fun w' hw' => by go_simp⟩) hS ?_
        simp only [Act.put]
        refine wpAnyH_ready (rs := [8]) (by kernel_rfl) (by simp) (AllReadyH.cons rfl (fun K hK => ?_) AllReadyH.nil)
        go_simp
        refine hK.out _ _ HSS.out (fun _ => wpAnyH_done (by kernel_rfl) ?_ _)
        clear hK K
        gi_wp2
        exact ⟨(keeps_below HBW.out).trans (((KeepsOthers.setCell _ _ _).from _).trans ((KeepsOthers.drew _).from _)), kp_stored HBW.out (by simp), HG.out.stored HFIN.out⟩
      · go_simp
        refine (hkb _).mono ?_
        rintro e w3 ⟨rfl, rfl⟩
        refine hK.out _ _ hS (fun _ => ?_)
        clear hK K
        refine wpAnyH_ready (rs := [3]) (by kernel_rfl) (by simp) (AllReadyH.cons rfl (fun K hK => ?_) AllReadyH.nil)
        go_simp
        refine hK.out _ _ hS (fun _ => ?_)
        clear hK K
        refine wpAnyH_take (i := 6) (v := .int .u32 ((ac ||| pw : Nat) : Int)) rfl (by kernel_rfl) (by kernel_rfl) (by kernel_rfl) (fun _ _ _ h => h) (Or.inl ⟨by rfl, fun w' hw' => by go_simp⟩) hS ?_
        simp only [Act.put]
        refine wpAnyH_take (i := 7) (v := .pointer (some ⟨w1.heap.size + 1, i, none⟩)) rfl (by kernel_rfl) (by kernel_rfl) (by kernel_rfl) (fun _ _ _ h => h) (Or.inl ⟨by rfl, fun w' hw' => by go_simp⟩) hS ?_
        simp only [Act.put]
        refine wpAnyH_ready (rs := [8]) (by kernel_rfl) (by simp) (AllReadyH.cons rfl (fun K hK => ?_) AllReadyH.nil)
        go_simp
        refine hK.out _ _ HSS.out (fun _ => wpAnyH_done (by kernel_rfl) ?_ _)
        clear hK K
        gi_wp2
        exact ⟨(keeps_below HBW.out).trans (((KeepsOthers.setCell _ _ _).from _).trans ((KeepsOthers.drew _).from _)), kp_stored HBW.out (by simp), HG.out.stored HFIN.out⟩
  case done =>
    rintro D ys W hD rfl ⟨g1, g2, g3, g4, g5⟩ hK
    have hc := g3.cell (i := 0) rfl
    gi_wp2
    refine ⟨by simp, .inl ⟨_, _, rfl, run_takeDeferred hK, ?_⟩⟩
    refine ⟨.tuple #[.slice (some ⟨w1.heap.size + 1, 0, none⟩) n n, .int .i64 0], by simp [results, Tryz.results35, go_sem], _, rfl, ?_, ?_⟩
    · rw [accL_all hn] at g2
      have hr := Rd.of_at n (At.ownK g2 (grownBy_putObj' W D (.deferred none)) (fun r e => by cases e; exact ⟨hD, _, hK, rfl⟩))
      rw [show (u32s (afterS l)).length = n from by simp [u32s, afterS, hn]] at hr
      exact rdx_at hr (by have := HB1.out.size; omega)
    · exact (HB1.out.trans (g5.mono HB1.out.size)).trans (belowK_b (w := w) (Nat.le_refl _) W D _ _ (by have := HB1.out.size; omega) hK rfl rfl)
  case stop =>
    rintro D c pre W _ _ h _
    exact h.elim
theorem At.cellE {w : World} {b : Nat} {cs : Array Value} {t : TypeId} (h : At w b cs t) (i : Nat) : w.cell? ⟨b, i, none⟩ = cs[i]? := by
  unfold At at h
  cases hi : cs[i]? <;> simp [World.cell?, h, hi]
/-- what reads as numbers does not lie in a block of slices -/
theorem rd_off {w : World} {N n c : Nat} {ca : Option Addr} {L : List Nat} {cs : Array Value} {t : TypeId} (hr : Rd w (.slice ca n c) (u32s L)) (hL : 0 < L.length) (ha : At w N cs t) (hcs : ∀ (i : Nat) (x : Nat), cs[i]? ≠ some (.int .u32 (x : Int))) : RdX (fun k => k = N) w (.slice ca n c) (u32s L) := by
  rcases hr with ⟨h0, _⟩ | ⟨h0, b, o, c', he, hc⟩
  · rw [← List.length_eq_zero_iff, u32s_len] at h0; omega
  · refine .inr ⟨h0, b, o, c', he, fun hb => ?_, hc⟩
    have hb : b = N := hb
    subst hb
    have h1 := hc 0 _ (u32s_get hL)
    rw [ha.cellE] at h1
    exact hcs _ _ h1
set_option maxRecDepth 100000 in
set_option maxHeartbeats 4000000 in
/-- traceOf's error is that of a row of nobody -/
theorem traceOf_any (a : Option Addr) (hc : Nat) (h : List Ev) (c : Nat) (B : Int) (w : World) (hK : HasK w) (hv : Evs w (.slice a h.length hc) h) (hl : h.length ≤ 65536) (hc32 : c < 4294967296) :
    Calls Tryz.prog 17 #[.slice a h.length hc, .int .u32 (c : Int), .int .i64 B] w fun e w' => Below w.heap.size w w' ∧
      (rowE h 0 c B ≠ 0 → e = .returned (.tuple #[.agg #[.slice none 0 0, .slice none 0 0, .slice none 0 0], .int .i64 ((rowE h 0 c B : Nat) : Int)])) ∧
      (rowE h 0 c B = 0 → ∃ aa ac ca cc, e = .returned (.tuple #[.agg #[.slice a h.length hc, .slice aa (tableS h).length ac, .slice ca (chL (tableS h)).length cc], .int .i64 0]) ∧
        RdX (fun k => k < w.heap.size) w' (.slice aa (tableS h).length ac) (u32s (afterS (tableS h))) ∧ Rd w' (.slice ca (chL (tableS h)).length cc) (u32s (chL (tableS h)))) := by
  obtain ⟨w1, hw1⟩ : ∃ w1, w.alloc (.cells #[.slice none 0 0, .slice none 0 0, .slice none 0 0] 48) = w1 := ⟨_, rfl⟩
  have HB1 : Hid (Below w.heap.size w w1) := by
    rw [← hw1]
    exact (Below.refl _ w).alloc (Nat.le_refl _) _
  obtain ⟨N, hN⟩ : ∃ N, w.heap.size = N := ⟨_, rfl⟩
  have HA1 : Hid (At w1 N #[.slice none 0 0, .slice none 0 0, .slice none 0 0] 48) := by
    rw [← hw1, ← hN]
    exact At.new w _ _
  have HK1 := Lib.hid (hK.later HB1.out (Nat.le_refl _))
  have HV1 := Lib.hid (hv.below HB1.out (Nat.le_refl _))
  have hN1 : N < w1.heap.size := HA1.out.lt
  have HROW := Lib.hid (rowX_any _ h 0 c B w1 HK1.out HV1.out hl (by decide) hc32)
  obtain ⟨x, hx⟩ : ∃ x, rowF h 0 c B = x := ⟨_, rfl⟩
  rw [hx] at HROW
  unfold fndV at HROW
  by_cases h0 : rowE h 0 c B = 0
  · have hse : srchE h B = 0 := by
      unfold rowE at h0
      by_cases he : srchE h B = 0
      · exact he
      · rw [if_neg he] at h0; exact h0
    have hck := (srchE_zero hse).1
    rw [h0] at HROW ⊢
    have HAF := Lib.hid (fun (W : World) (hW : Below w1.heap.size w1 W) => afterX_ok _ h W (HK1.out.later hW (Nat.le_refl _)) (HV1.out.below hW (Nat.le_refl _)) hl hck)
    have HCH := Lib.hid (fun (W : World) (hW : Below w1.heap.size w1 W) => choices_any _ h W (HK1.out.later hW (Nat.le_refl _)) (HV1.out.below hW (Nat.le_refl _)) hl)
    rw [hck] at HCH
    simp only [if_true] at HCH
    have HLA : Hid ((u32s (afterS (tableS h))).length = (tableS h).length) := by unfold Hid; rw [u32s_len, afterS_len]
    clear h0 hse hck hK hv hx
    go_enter Tryz.func17, Tryz.ntmps17
    go_wp2_with fail
    refine HROW.out.mono ?_
    rintro e w2 ⟨rv, rfl, hr2, -, hb2⟩
    obtain ⟨ra, rc, rfl⟩ := hr2.rd.len
    clear hr2 HROW
    have hba := (Below.refl w2.heap.size w2).alloc (Nat.le_refl _) (.cells #[.int .i64 (x.1 : Int), .int .u32 (x.2.1 : Int), .slice ra (nats x.2.2.1).length rc, .int .i64 (x.2.2.2 : Int)] 26)
    have HB2 : Hid (Below w1.heap.size w1 (w2.alloc (.cells #[.int .i64 (x.1 : Int), .int .u32 (x.2.1 : Int), .slice ra (nats x.2.2.1).length rc, .int .i64 (x.2.2.2 : Int)] 26))) := hb2.trans (hba.mono hb2.size)
    have haf := HAF.out _ HB2.out
    clear hb2 hba
    go_wp2_with fail
    refine haf.mono ?_
    rintro e w3 ⟨v3, rfl, hr3, hb3⟩
    have HB3 := Lib.hid (HB2.out.trans (hb3.mono HB2.out.size))
    obtain ⟨aa, ac, rfl⟩ := hr3.rd.len
    rw [HLA.out] at hr3 ⊢
    have HR3 := Lib.hid (hr3.less (Y := fun k => k < w1.heap.size) (fun k hk => by have := HB2.out.size; omega))
    have hch := HCH.out _ HB3.out
    clear hb3 haf HAF HCH hr3
    go_wp2_with fail
    refine hch.mono ?_
    rintro e w4 ⟨v4, rfl, hr4, hb4⟩
    have HB4 := Lib.hid (HB3.out.trans (hb4.mono HB3.out.size))
    have HR4 := Lib.hid hr4
    have HR3b := Lib.hid (HR3.out.below hb4)
    obtain ⟨ca, cc, rfl⟩ := hr4.len
    rw [u32s_len] at HR4 ⊢
    have ha4 := HA1.out.below HB4.out hN1
    have HA4 := Lib.hid ha4
    have q0 : w4.cell? ⟨N, 0, none⟩ = some (.slice none 0 0) := ha4.cell rfl
    have q1 : w4.cell? ⟨N, 1, none⟩ = some (.slice none 0 0) := ha4.cell rfl
    have q2 : w4.cell? ⟨N, 2, none⟩ = some (.slice none 0 0) := ha4.cell rfl
    have f0 := ha4.free 0
    have f1 := ha4.free 1
    have f2 := ha4.free 2
    clear hb4 hch hr4 ha4
    go_wp2
    have HAZ := Lib.hid (((HA4.out.set 0 (.slice a h.length hc)).set 1 (.slice aa (tableS h).length ac)).set 2 (.slice ca (chL (tableS h)).length cc))
    have HOZ := Lib.hid ((((Only.refl (fun k => k = N) w4).setCell (p := ⟨N, 0, none⟩) (fun _ => rfl) (.slice a h.length hc)).setCell (p := ⟨N, 1, none⟩) (fun _ => rfl) (.slice aa (tableS h).length ac)).setCell (p := ⟨N, 2, none⟩) (fun _ => rfl) (.slice ca (chL (tableS h)).length cc))
    have HBZ : Hid (Below w.heap.size w (((w4.setCell ⟨N, 0, none⟩ (.slice a h.length hc)).setCell ⟨N, 1, none⟩ (.slice aa (tableS h).length ac)).setCell ⟨N, 2, none⟩ (.slice ca (chL (tableS h)).length cc))) :=
      (((HB1.out.trans (HB4.out.mono HB1.out.size)).setCell (by dsimp only; omega) _).setCell (by dsimp only; omega) _).setCell (by dsimp only; omega) _
    clear q0 q1 q2 f0 f1 f2
    generalize ((w4.setCell ⟨N, 0, none⟩ (.slice a h.length hc)).setCell ⟨N, 1, none⟩ (.slice aa (tableS h).length ac)).setCell ⟨N, 2, none⟩ (.slice ca (chL (tableS h)).length cc) = w5 at *
    have q0 : w5.cell? ⟨N, 0, none⟩ = some (.slice a h.length hc) := HAZ.out.cell rfl
    have q1 : w5.cell? ⟨N, 1, none⟩ = some (.slice aa (tableS h).length ac) := HAZ.out.cell rfl
    have q2 : w5.cell? ⟨N, 2, none⟩ = some (.slice ca (chL (tableS h)).length cc) := HAZ.out.cell rfl
    refine bodyPost_ret (v := .tuple #[.agg #[.slice a h.length hc, .slice aa (tableS h).length ac, .slice ca (chL (tableS h)).length cc], .int .i64 0]) (by simp [results, Tryz.results17, go_sem, q0, q1, q2]) rfl ?_
    refine ⟨HBZ.out, fun h => absurd rfl h, fun _ => ⟨aa, ac, ca, cc, rfl, ?_, ?_⟩⟩
    · exact (HR3b.out.only HOZ.out (fun k hk => by show k < _; omega)).less (fun k hk => by show k < _; have := HB1.out.size; omega)
    · refine (RdX.only (rd_off HR4.out (by rw [chL_len]; exact Nat.two_pow_pos _) HA4.out (fun i y hi => ?_)) HOZ.out (fun k hk => hk)).rd
      have hlt := (Array.getElem?_eq_some_iff.1 hi).1
      simp only [List.size_toArray, List.length_cons, List.length_nil] at hlt
      rcases i with _ | _ | _ | i
      · simp at hi
      · simp at hi
      · simp at hi
      · omega
  · obtain ⟨er, her⟩ : ∃ er, rowE h 0 c B = er := ⟨_, rfl⟩
    rw [her] at HROW h0 ⊢
    have te : ((er : Int) != 0) = true := by simp; omega
    clear hK hv hx her
    go_enter Tryz.func17, Tryz.ntmps17
    go_wp2_with fail
    refine HROW.out.mono ?_
    rintro e w2 ⟨rv, rfl, hr2, -, hb2⟩
    obtain ⟨ra, rc, rfl⟩ := hr2.rd.len
    clear hr2 HROW
    have HB2 := Lib.hid hb2
    have hba := (Below.refl w2.heap.size w2).alloc (Nat.le_refl _) (.cells #[.int .i64 (x.1 : Int), .int .u32 (x.2.1 : Int), .slice ra (nats x.2.2.1).length rc, .int .i64 (x.2.2.2 : Int)] 26)
    have HB3 : Hid (Below w1.heap.size w1 (w2.alloc (.cells #[.int .i64 (x.1 : Int), .int .u32 (x.2.1 : Int), .slice ra (nats x.2.2.1).length rc, .int .i64 (x.2.2.2 : Int)] 26))) := hb2.trans (hba.mono hb2.size)
    have ha2 := HA1.out.below HB3.out hN1
    have HA2 := Lib.hid ha2
    have q0 : (w2.alloc (.cells #[.int .i64 (x.1 : Int), .int .u32 (x.2.1 : Int), .slice ra (nats x.2.2.1).length rc, .int .i64 (x.2.2.2 : Int)] 26)).cell? ⟨N, 0, none⟩ = some (.slice none 0 0) := ha2.cell rfl
    have q1 : (w2.alloc (.cells #[.int .i64 (x.1 : Int), .int .u32 (x.2.1 : Int), .slice ra (nats x.2.2.1).length rc, .int .i64 (x.2.2.2 : Int)] 26)).cell? ⟨N, 1, none⟩ = some (.slice none 0 0) := ha2.cell rfl
    have q2 : (w2.alloc (.cells #[.int .i64 (x.1 : Int), .int .u32 (x.2.1 : Int), .slice ra (nats x.2.2.1).length rc, .int .i64 (x.2.2.2 : Int)] 26)).cell? ⟨N, 2, none⟩ = some (.slice none 0 0) := ha2.cell rfl
    have f0 := ha2.free 0
    have f1 := ha2.free 1
    have f2 := ha2.free 2
    clear hb2 hba ha2
    go_wp2
    have HAZ := Lib.hid (((HA2.out.set 0 (.slice none 0 0)).set 1 (.slice none 0 0)).set 2 (.slice none 0 0))
    have HBZ : Hid (Below w.heap.size w ((((w2.alloc (.cells #[.int .i64 (x.1 : Int), .int .u32 (x.2.1 : Int), .slice ra (nats x.2.2.1).length rc, .int .i64 (x.2.2.2 : Int)] 26)).setCell ⟨N, 0, none⟩ (.slice none 0 0)).setCell ⟨N, 1, none⟩ (.slice none 0 0)).setCell ⟨N, 2, none⟩ (.slice none 0 0))) :=
      (((HB1.out.trans (HB3.out.mono HB1.out.size)).setCell (by dsimp only; omega) _).setCell (by dsimp only; omega) _).setCell (by dsimp only; omega) _
    clear q0 q1 q2 f0 f1 f2
    generalize (((w2.alloc (.cells #[.int .i64 (x.1 : Int), .int .u32 (x.2.1 : Int), .slice ra (nats x.2.2.1).length rc, .int .i64 (x.2.2.2 : Int)] 26)).setCell ⟨N, 0, none⟩ (.slice none 0 0)).setCell ⟨N, 1, none⟩ (.slice none 0 0)).setCell ⟨N, 2, none⟩ (.slice none 0 0) = w5 at *
    have q0 : w5.cell? ⟨N, 0, none⟩ = some (.slice none 0 0) := HAZ.out.cell rfl
    have q1 : w5.cell? ⟨N, 1, none⟩ = some (.slice none 0 0) := HAZ.out.cell rfl
    have q2 : w5.cell? ⟨N, 2, none⟩ = some (.slice none 0 0) := HAZ.out.cell rfl
    refine bodyPost_ret (v := .tuple #[.agg #[.slice none 0 0, .slice none 0 0, .slice none 0 0], .int .i64 (er : Int)]) (by simp [results, Tryz.results17, go_sem, q0, q1, q2]) rfl ?_
    exact ⟨HBZ.out, fun _ => rfl, fun h => absurd h h0⟩
end Go.Proofs.YtpjfhdljagkefaaGreatDoor
/- How findings lie in memory: a slice of them, each with its row. -/
namespace Go.Proofs.YtpjfhdljagkefaaGreatDoor.WPlain
end Go.Proofs.YtpjfhdljagkefaaGreatDoor.WPlain
namespace Go.Proofs.YtpjfhdljagkefaaGreatDoor.RPlain
end Go.Proofs.YtpjfhdljagkefaaGreatDoor.RPlain
namespace Go.Proofs.YtpjfhdljagkefaaGreatDoor
open Go.RowKit WPlain RPlain

/-- a finding: verdict, choice or set, row, steps -/
structure Fd where
  v : Int
  c : Int
  r : List Int
  s : Int
  deriving DecidableEq
/-- its cells; its row is a value -/
def fdC (p : Fd × Value) : List Value := [.int .i64 p.1.v, .int .u32 p.1.c, p.2, .int .i64 p.1.s]
theorem fdC_len (p : Fd × Value) : (fdC p).length = 4 := rfl
/-- a slice value reads as findings -/
def Fds (w : World) (v : Value) (l : List Fd) : Prop := ∃ ps : List (Fd × Value), ps.map (·.1) = l ∧ Rws 4 fdC w v ps ∧ ∀ p ∈ ps, Rd w p.2 (ints p.1.r)
theorem Fds.len {w : World} {v : Value} {l : List Fd} (h : Fds w v l) : ∃ a c, v = .slice a l.length c := by
  obtain ⟨ps, rfl, hr, _⟩ := h
  rw [List.length_map]
  exact hr.len
theorem Fds.below {w w' : World} {B : Nat} {v : Value} {l : List Fd} (h : Fds w v l) (hb : Below B w w') (hB : w.heap.size ≤ B) : Fds w' v l := by
  obtain ⟨ps, rfl, hr, ho⟩ := h
  exact ⟨ps, rfl, hr.below hb hB, fun p hp => (ho p hp).below hb hB⟩
theorem Fds.nil (w : World) (a : Option Addr) (c : Nat) : Fds w (.slice a 0 c) [] := ⟨[], rfl, Rws.nil _ _ _, fun _ h => by cases h⟩
/-- one of them: its cells, and its row -/
theorem Fds.get {w : World} {b o n c : Nat} {l : List Fd} (h : Fds w (.slice (some ⟨b, o, none⟩) n c) l) (i : Nat) (hi : i < l.length) :
    ∃ u, w.cell? ⟨b, o + i * 4, none⟩ = some (.int .i64 l[i].v) ∧ w.cell? ⟨b, o + i * 4 + 1, none⟩ = some (.int .u32 l[i].c) ∧ w.cell? ⟨b, o + i * 4 + 2, none⟩ = some u ∧ w.cell? ⟨b, o + i * 4 + 3, none⟩ = some (.int .i64 l[i].s) ∧ Rd w u (ints l[i].r) := by
  obtain ⟨ps, rfl, hr, ho⟩ := h
  have hip : i < ps.length := by simpa using hi
  simp only [List.getElem_map]
  rcases hr with ⟨rfl, _⟩ | ⟨_, b', o', c', he, _, hc⟩
  · simp at hip
  · simp only [Value.slice.injEq, Option.some.injEq, Addr.mk.injEq, and_true] at he
    obtain ⟨⟨rfl, rfl⟩, _, _⟩ := he
    exact ⟨ps[i].2, hc i hip 0 _ (by omega) rfl, hc i hip 1 _ (by omega) rfl, hc i hip 2 _ (by omega) rfl, hc i hip 3 _ (by omega) rfl, ho _ (List.getElem_mem _)⟩
/-- findings of the call's own: their slice lies in a block from B on, and no row of them lies in that block -/
def FOwn (B : Nat) (ty : TypeId) (w : World) (v : Value) (l : List Fd) : Prop := ∃ ps : List (Fd × Value), ps.map (·.1) = l ∧ w.ownsRow B ty 4 v ps.length (ps.flatMap fdC) ∧ ∀ p ∈ ps, RdX (fun k => v.ownBlock = some k) w p.2 (ints p.1.r)
theorem FOwn.fds {B : Nat} {ty : TypeId} {w : World} {v : Value} {l : List Fd} (h : FOwn B ty w v l) : Fds w v l := by
  obtain ⟨ps, rfl, hr, ho⟩ := h
  exact ⟨ps, rfl, Rws.of_row fdC_len hr, fun p hp => (ho p hp).rd⟩
theorem FOwn.nil0 (B : Nat) (ty : TypeId) (w : World) : FOwn B ty w (.slice none 0 0) [] := ⟨[], rfl, World.ownsRow_nil _ _ _ _, fun _ h => by cases h⟩
theorem FOwn.made (B : Nat) (ty : TypeId) (w : World) (hB : B ≤ w.heap.size) : FOwn B ty (w.alloc (.cells #[] ty)) (.slice (some ⟨w.heap.size, 0, none⟩) 0 0) [] :=
  ⟨[], rfl, World.ownsRow_made (size := 4) (e := ty) (base := B) w #[] 0 hB (by unfold maxLen; omega) rfl, fun _ h => by cases h⟩
theorem FOwn.mono {B B' : Nat} {ty : TypeId} {w : World} {v : Value} {l : List Fd} (h : FOwn B ty w v l) (hb : B' ≤ B) : FOwn B' ty w v l := by
  obtain ⟨ps, he, hr, ho⟩ := h
  refine ⟨ps, he, ⟨hr.1, ?_⟩, ho⟩
  rcases hr.2 with hn | ⟨g, cap, cur, rfl, hB, rest⟩
  · exact .inl hn
  · exact .inr ⟨g, cap, cur, rfl, by omega, rest⟩
theorem FOwn.only {B : Nat} {ty : TypeId} {s : Nat → Prop} {w w' : World} {v : Value} {l : List Fd} (h : FOwn B ty w v l) (ho : Only s w w') (hs : ∀ k, v.ownBlock = some k → ¬ s k) (hr : ∀ p u, RdX (fun k => v.ownBlock = some k) w p u → RdX (fun k => v.ownBlock = some k) w' p u) : FOwn B ty w' v l := by
  obtain ⟨ps, he, hr', hq⟩ := h
  exact ⟨ps, he, own_only hr' ho hs, fun p hp => hr _ _ (hq p hp)⟩
theorem FOwn.later {B : Nat} {ty : TypeId} {w w' : World} {v : Value} {l : List Fd} (h : FOwn B ty w v l) (hb : Below w.heap.size w w') : FOwn B ty w' v l := by
  obtain ⟨ps, he, hr, hq⟩ := h
  refine ⟨ps, he, ⟨hr.1, ?_⟩, fun p hp => (hq p hp).below hb⟩
  rcases hr.2 with hn | ⟨g, cap, cur, rfl, hB, hg, rest⟩
  · exact .inl hn
  · refine .inr ⟨g, cap, cur, rfl, hB, ?_, rest⟩
    rw [hb.block g (Array.getElem?_eq_some_iff.1 hg).1]
    exact hg
/-- one more of them -/
theorem FOwn.add {B : Nat} {ty : TypeId} {w w' : World} {v v' u : Value} {ps : List (Fd × Value)} {f : Fd} (hq : ∀ p ∈ ps, RdX (fun k => v.ownBlock = some k) w p.2 (ints p.1.r)) (hu : RdX (fun k => v.ownBlock = some k) w u (ints f.r))
    (hr : w'.ownsRow B ty 4 v' (ps.length + 1) (ps.flatMap fdC ++ fdC (f, u))) (hg : w.grownBy w' v.ownBlock) (hl : Lies w v v') : FOwn B ty w' v' (ps.map (·.1) ++ [f]) := by
  have hkeep : ∀ (x : Value) (xs : List Value), RdX (fun k => v.ownBlock = some k) w x xs → RdX (fun k => v'.ownBlock = some k) w' x xs := by
    intro x xs hx
    rcases hx with h0 | ⟨hp, b, o, c, rfl, hb, hc⟩
    · exact .inl h0
    · have hlt : b < w.heap.size := World.block_lt_of_cell? (a := ⟨b, o + 0, none⟩) w (hc 0 _ (List.getElem?_eq_getElem hp))
      refine .inr ⟨hp, b, o, c, rfl, ?_, fun i y hy => ?_⟩
      · rcases hl with he | hh
        · rw [he]; exact hb
        · intro hk
          have := hh _ hk
          omega
      · exact hg.cell (hc i y hy) (fun h => hb h.symm)
  refine ⟨ps ++ [(f, u)], by simp, ?_, fun p hp => ?_⟩
  · rw [List.length_append, List.length_singleton, List.flatMap_append, List.flatMap_cons, List.flatMap_nil, List.append_nil]
    exact hr
  · rcases List.mem_append.1 hp with hp | hp
    · exact hkeep _ _ (hq p hp)
    · rw [List.mem_singleton.1 hp]
      exact hkeep _ _ hu
end Go.Proofs.YtpjfhdljagkefaaGreatDoor
