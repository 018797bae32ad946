/- Merged: SrlN, WorZ, WorR. -/
import Derived.Test.YtpjfhdljagkefaaGreatDoorMg16
import Derived.Test.YtpjfhdljagkefaaGreatDoorMg11
import Derived.Test.YtpjfhdljagkefaaGreatDoorMg14
import Derived.Test.YtpjfhdljagkefaaGreatDoorMg12
import Derived.Test.YtpjfhdljagkefaaGreatDoorMg17
import Derived.Test.YtpjfhdljagkefaaGreatDoorMg21
import Derived.Test.YtpjfhdljagkefaaGreatDoorMg24
import Derived.Test.YtpjfhdljagkefaaGreatDoorMg4
import Derived.Test.YtpjfhdljagkefaaGreatDoorMg10
import Derived.Test.YtpjfhdljagkefaaGreatDoorMg2
import Derived.Test.YtpjfhdljagkefaaGreatDoorMg9
import Derived.Test.YtpjfhdljagkefaaGreatDoorShelf
import Derived.Laws.OwnMore
import Derived.Deep.QuietTactic
import Derived.BigQuiet
/- The walks of slices.Index and Contains at uint32, and of the law's explained where no row explains. -/
namespace Go.Proofs.YtpjfhdljagkefaaGreatDoor.WPlain
end Go.Proofs.YtpjfhdljagkefaaGreatDoor.WPlain
namespace Go.Proofs.YtpjfhdljagkefaaGreatDoor.QPlain
end Go.Proofs.YtpjfhdljagkefaaGreatDoor.QPlain
namespace Go.Proofs.YtpjfhdljagkefaaGreatDoor.RPlain
end Go.Proofs.YtpjfhdljagkefaaGreatDoor.RPlain
namespace Go.Proofs.YtpjfhdljagkefaaGreatDoor
open Go.RowKit WPlain QPlain RPlain

set_option maxRecDepth 100000 in
set_option maxHeartbeats 1000000 in
theorem indexU32_any (v : Value) (L : List Nat) (x : Nat) (w : World) (hv : Rd w v (u32s L)) (hl : L.length ≤ 65536) :
    Calls Tryz.prog 37 #[v, .int .u32 (x : Int)] w fun e w' => (∃ z : Int, e = .returned (.int .i64 z) ∧ decide (0 ≤ z) = L.contains x) ∧ w' = w := by
  have HV := Lib.hid hv
  obtain ⟨va, vc, rfl⟩ := hv.len
  rw [u32s_len] at HV ⊢
  clear hv
  go_enter Tryz.func37, Tryz.ntmps37
  go_wp2_with fail
  go_loopw [8] (fun y wr => ∃ k : Nat, k ≤ L.length ∧ y = .int .i64 k ∧ Hid ((L.take k).contains x = false) ∧ wr = w) (fun y _ => L.length - (intOf y).toNat)
  case atStart => exact ⟨0, by omega, rfl, rfl, rfl⟩
  case round =>
    obtain ⟨k, hk, rfl, HA, rfl⟩ := hrel
    by_cases hlt : k < L.length
    · have HT : Hid (L.take (k + 1) = L.take k ++ [L[k]]) := List.take_succ_eq_append_getElem hlt
      have HM : Hid (L[k] ∈ L) := List.getElem_mem hlt
      obtain ⟨b, o, c', he, hbl, hcs⟩ := HV.out.opened (by rw [u32s_len]; omega)
      simp only [Value.slice.injEq] at he
      obtain ⟨rfl, -, rfl⟩ := he
      have hck := hcs k _ (u32s_get hlt)
      clear hcs
      generalize L[k] = y at *
      by_cases hxy : x = y
      · have HA2 : Hid (L.contains x = true) := by unfold Hid; rw [List.contains_iff_mem, hxy]; exact HM.out
        have te : ((x : Int) == (y : Int)) = true := by rw [hxy]; simp
        clear hxy HT HM HA
        go_wp2_with fail
        go_ret
        exact ⟨⟨_, rfl, by rw [HA2.out]; exact decide_eq_true (by omega)⟩, rfl⟩
      · have HA2 : Hid ((L.take (k + 1)).contains x = false) := by
          unfold Hid
          rw [HT.out, ← Bool.not_eq_true, List.contains_iff_mem, List.mem_append, List.mem_singleton]
          rintro (h | h)
          · have := HA.out
            rw [← Bool.not_eq_true, List.contains_iff_mem] at this
            exact this h
          · exact hxy h
        have te : ((x : Int) == (y : Int)) = false := by rw [beq_eq_false_iff_ne]; omega
        clear hxy HT HM HA
        go_wp2_with fail
        go_roundw
        case rel => exact ⟨k + 1, by omega, by go_num, HA2, trivial⟩
        case measure => simp [intOf]; omega
    · obtain rfl : k = L.length := by omega
      have HA2 : Hid (L.contains x = false) := by have := HA.out; rwa [List.take_length] at this
      clear HA
      go_wp2_with fail
      go_ret
      exact ⟨⟨_, rfl, by rw [HA2.out]; rfl⟩, rfl⟩
theorem containsU32_any (v : Value) (L : List Nat) (x : Nat) (w : World) (hv : Rd w v (u32s L)) (hl : L.length ≤ 65536) :
    Calls Tryz.prog 18 #[v, .int .u32 (x : Int)] w fun e w' => e = .returned (.bool (L.contains x)) ∧ w' = w := by
  have HI := Lib.hid (indexU32_any v L x w hv hl)
  obtain ⟨va, vc, rfl⟩ := hv.len
  clear hv hl
  go_enter Tryz.func18, Tryz.ntmps18
  go_wp2_with fail
  refine HI.out.mono ?_
  rintro e w1 ⟨⟨z, rfl, hz⟩, rfl⟩
  go_wp2
  all_goals go_ret
  all_goals exact ⟨ret_bool (by first | exact hz | simp), rfl⟩
end Go.Proofs.YtpjfhdljagkefaaGreatDoor
/- The walk of package world's One. -/
namespace Go.Proofs.YtpjfhdljagkefaaGreatDoor.WPlain
end Go.Proofs.YtpjfhdljagkefaaGreatDoor.WPlain
namespace Go.Proofs.YtpjfhdljagkefaaGreatDoor.QPlain
end Go.Proofs.YtpjfhdljagkefaaGreatDoor.QPlain
namespace Go.Proofs.YtpjfhdljagkefaaGreatDoor.RPlain
end Go.Proofs.YtpjfhdljagkefaaGreatDoor.RPlain
namespace Go.Proofs.YtpjfhdljagkefaaGreatDoor
open Go.RowKit WPlain QPlain RPlain

/-- One's error, and what it finds -/
def oneE (h : List Ev) (t : Int) (c : Nat) (B : Int) : Nat := if rowE h 0 c B = 0 then (if t < 0 ∨ ((tableS h).length : Int) ≤ t then 7 else if (chL (tableS h)).contains c = true then 0 else 1) else rowE h 0 c B
def oneF (h : List Ev) (t : Int) (c : Nat) (B : Int) : Nat × Nat × List Nat × Nat := if oneE h t c B = 0 then oneS B.toNat (tableS h) t.toNat c 0 else (0, 0, [], 0)
set_option maxRecDepth 100000 in
set_option maxHeartbeats 8000000 in
theorem oneW_any (v : Value) (h : List Ev) (t : Int) (c : Nat) (B : Int) (w : World) (hK : HasK w) (hv : Evs w v h) (hl : h.length ≤ 65536) (hc32 : c < 4294967296) :
    Calls Tryz.prog 5 #[v, .int .i64 t, .int .u32 (c : Int), .int .i64 B] w fun e w' => ∃ rv, e = .returned (.tuple #[fndV (oneF h t c B).1 (oneF h t c B).2.1 rv (oneF h t c B).2.2.2, .int .i64 ((oneE h t c B : Nat) : Int)]) ∧
      Rd w' rv (nats (oneF h t c B).2.2.1) ∧ Below w.heap.size w w' := by
  obtain ⟨w1, hw1⟩ : ∃ w1, w.alloc (.cells #[.int .i64 0, .int .u32 0, .slice none 0 0, .int .i64 0] 26) = w1 := ⟨_, rfl⟩
  have HB1 : Hid (Below w.heap.size w w1) := by
    rw [← hw1]
    exact (Below.refl _ w).alloc (Nat.le_refl _) _
  obtain ⟨N, hN⟩ : ∃ N, w.heap.size = N := ⟨_, rfl⟩
  have HA1 : Hid (At w1 N #[.int .i64 0, .int .u32 0, .slice none 0 0, .int .i64 0] 26) := by
    rw [← hw1, ← hN]
    exact At.new w _ _
  have HK1 := Lib.hid (hK.later HB1.out (Nat.le_refl _))
  have HV1 := Lib.hid (hv.below HB1.out (Nat.le_refl _))
  have hN1 : N < w1.heap.size := HA1.out.lt
  obtain ⟨hva, hvc, rfl⟩ : ∃ a c, v = .slice a h.length c := hv.len
  have HTR := Lib.hid (traceOf_any hva hvc h c B w1 HK1.out HV1.out hl hc32)
  clear hK hv
  unfold oneF
  by_cases hB : rowE h 0 c B = 0
  · have hse : srchE h B = 0 := by
      unfold rowE at hB
      by_cases he : srchE h B = 0
      · exact he
      · rw [if_neg he] at hB; exact hB
    obtain ⟨hc0, hB0, hB1⟩ := srchE_zero hse
    have h6 := table_six hc0
    have hcn : (chL (tableS h)).length ≤ 65536 := by have h1 := choices_count (tableS h); rw [choices_chL h6] at h1; omega
    have HMC := Lib.hid (fun (hm : c ∈ chL (tableS h)) => (mem_chL.1 hm).1)
    rw [hB] at HTR
    have hoe : oneE h t c B = if t < 0 ∨ ((tableS h).length : Int) ≤ t then 7 else if (chL (tableS h)).contains c = true then 0 else 1 := by unfold oneE; rw [if_pos hB]
    have HC0 := Lib.hid hc0
    obtain ⟨E, hE⟩ : ∃ E, oneE h t c B = E := ⟨_, rfl⟩
    rw [hE] at hoe ⊢
    have HOE := Lib.hid hoe
    have HSEE := Lib.hid (fun (aa ca : Option Addr) (ac cn cc : Nat) (tn : Nat) (W : World) hE ht hcl (S : Nat → Prop) hS hr => seenW_any hva ca aa hvc cn cc ac h tn c B.toNat W hE ht hcl (by omega) S hS hr)
    clear hB hse hc0 hE hoe
    go_enter Tryz.func5, Tryz.ntmps5
    go_wp2_with fail
    refine HTR.out.mono ?_
    rintro e w2 ⟨hb2, -, hok⟩
    obtain ⟨aa, ac, ca, cc, rfl, haf, hch⟩ := hok trivial
    obtain ⟨M, hM⟩ : ∃ M, w2.heap.size = M := ⟨_, rfl⟩
    obtain ⟨w3, hw3⟩ : ∃ w3, w2.alloc (.cells #[.slice hva h.length hvc, .slice aa (tableS h).length ac, .slice ca (chL (tableS h)).length cc] 48) = w3 := ⟨_, rfl⟩
    have hb23 : Below w2.heap.size w2 w3 := by
      rw [← hw3]
      exact (Below.refl w2.heap.size w2).alloc (Nat.le_refl _) _
    have HB3 : Hid (Below w1.heap.size w1 w3) := hb2.trans (hb23.mono hb2.size)
    have HE3 : Hid (At w3 M #[.slice hva h.length hvc, .slice aa (tableS h).length ac, .slice ca (chL (tableS h)).length cc] 48) := by
      rw [← hw3, ← hM]
      exact At.new w2 _ _
    have HAF := Lib.hid (haf.below hb23)
    have HCH := Lib.hid (hch.below hb23 (Nat.le_refl _))
    have HTE : Hid (TrE w3 (.slice hva h.length hvc) (.slice aa (tableS h).length ac) h) := ⟨HK1.out.later HB3.out (Nat.le_refl _), HV1.out.below HB3.out (Nat.le_refl _), hl, HC0.out, HAF.out.rd⟩
    have HA3 := Lib.hid (HA1.out.below HB3.out hN1)
    have HNB3 : Hid (Below N w w3) := by
      have h1 := HB1.out.trans (HB3.out.mono HB1.out.size)
      rw [hN] at h1
      exact h1
    have e0 : w3.cell? ⟨M, 0, none⟩ = some (.slice hva h.length hvc) := HE3.out.cell rfl
    have e1 : w3.cell? ⟨M, 1, none⟩ = some (.slice aa (tableS h).length ac) := HE3.out.cell rfl
    have e2 : w3.cell? ⟨M, 2, none⟩ = some (.slice ca (chL (tableS h)).length cc) := HE3.out.cell rfl
    clear hb2 hb23 haf hch hok HTR
    by_cases ht0 : t < 0
    · have hE7 := HOE.out
      rw [if_pos (.inl ht0)] at hE7
      subst hE7
      have r0 : w3.cell? ⟨N, 0, none⟩ = some (.int .i64 0) := HA3.out.cell rfl
      have r1 : w3.cell? ⟨N, 1, none⟩ = some (.int .u32 0) := HA3.out.cell rfl
      have r2 : w3.cell? ⟨N, 2, none⟩ = some (.slice none 0 0) := HA3.out.cell rfl
      have r3 : w3.cell? ⟨N, 3, none⟩ = some (.int .i64 0) := HA3.out.cell rfl
      have f0 : w3.frozen? ⟨N, 0, none⟩ = false := HA3.out.free 0
      have f1 : w3.frozen? ⟨N, 1, none⟩ = false := HA3.out.free 1
      have f2 : w3.frozen? ⟨N, 2, none⟩ = false := HA3.out.free 2
      have f3 : w3.frozen? ⟨N, 3, none⟩ = false := HA3.out.free 3
      go_wp2_with fail
      have HZ7 := Lib.hid (fnd4_set HA3.out (.int .i64 0) (.int .u32 0) (.slice none 0 0) (.int .i64 0))
      have HO7 := Lib.hid (fnd_only w3 N (.int .i64 0) (.int .u32 0) (.slice none 0 0) (.int .i64 0))
      generalize ((((w3.setCell ⟨N, 0, none⟩ (.int .i64 0)).setCell ⟨N, 1, none⟩ (.int .u32 0)).setCell ⟨N, 2, none⟩ (.slice none 0 0)).setCell ⟨N, 3, none⟩ (.int .i64 0)) = w7 at *
      clear r0 r1 r2 r3 f0 f1 f2 f3
      have r0 : w7.cell? ⟨N, 0, none⟩ = some (.int .i64 0) := HZ7.out.cell rfl
      have r1 : w7.cell? ⟨N, 1, none⟩ = some (.int .u32 0) := HZ7.out.cell rfl
      have r2 : w7.cell? ⟨N, 2, none⟩ = some (.slice none 0 0) := HZ7.out.cell rfl
      have r3 : w7.cell? ⟨N, 3, none⟩ = some (.int .i64 0) := HZ7.out.cell rfl
      have HB7 : Hid (Below N w w7) := by
        have h1 := HNB3.out
        exact h1.trans (HO7.out.below (by have := h1.size; omega) (fun k _ hk => by omega))
      try rw [Exit.noGoto_ret]
      refine bodyPost_ret (v := .tuple #[fndV 0 0 (.slice none 0 0) 0, .int .i64 7]) (by simp [results, Tryz.results5, go_sem, r0, r1, r2, r3]; rfl) rfl ?_
      try rw [hN]
      exact ⟨_, rfl, .inl ⟨rfl, _, _, rfl⟩, HB7.out⟩
    · by_cases htn : ((tableS h).length : Int) ≤ t
      · have hE7 := HOE.out
        rw [if_pos (.inr htn)] at hE7
        subst hE7
        have r0 : w3.cell? ⟨N, 0, none⟩ = some (.int .i64 0) := HA3.out.cell rfl
        have r1 : w3.cell? ⟨N, 1, none⟩ = some (.int .u32 0) := HA3.out.cell rfl
        have r2 : w3.cell? ⟨N, 2, none⟩ = some (.slice none 0 0) := HA3.out.cell rfl
        have r3 : w3.cell? ⟨N, 3, none⟩ = some (.int .i64 0) := HA3.out.cell rfl
        have f0 : w3.frozen? ⟨N, 0, none⟩ = false := HA3.out.free 0
        have f1 : w3.frozen? ⟨N, 1, none⟩ = false := HA3.out.free 1
        have f2 : w3.frozen? ⟨N, 2, none⟩ = false := HA3.out.free 2
        have f3 : w3.frozen? ⟨N, 3, none⟩ = false := HA3.out.free 3
        go_wp2_with fail
        have HZ7 := Lib.hid (fnd4_set HA3.out (.int .i64 0) (.int .u32 0) (.slice none 0 0) (.int .i64 0))
        have HO7 := Lib.hid (fnd_only w3 N (.int .i64 0) (.int .u32 0) (.slice none 0 0) (.int .i64 0))
        generalize ((((w3.setCell ⟨N, 0, none⟩ (.int .i64 0)).setCell ⟨N, 1, none⟩ (.int .u32 0)).setCell ⟨N, 2, none⟩ (.slice none 0 0)).setCell ⟨N, 3, none⟩ (.int .i64 0)) = w7 at *
        clear r0 r1 r2 r3 f0 f1 f2 f3
        have r0 : w7.cell? ⟨N, 0, none⟩ = some (.int .i64 0) := HZ7.out.cell rfl
        have r1 : w7.cell? ⟨N, 1, none⟩ = some (.int .u32 0) := HZ7.out.cell rfl
        have r2 : w7.cell? ⟨N, 2, none⟩ = some (.slice none 0 0) := HZ7.out.cell rfl
        have r3 : w7.cell? ⟨N, 3, none⟩ = some (.int .i64 0) := HZ7.out.cell rfl
        have HB7 : Hid (Below N w w7) := by
          have h1 := HNB3.out
          exact h1.trans (HO7.out.below (by have := h1.size; omega) (fun k _ hk => by omega))
        try rw [Exit.noGoto_ret]
        refine bodyPost_ret (v := .tuple #[fndV 0 0 (.slice none 0 0) 0, .int .i64 7]) (by simp [results, Tryz.results5, go_sem, r0, r1, r2, r3]; rfl) rfl ?_
        try rw [hN]
        exact ⟨_, rfl, .inl ⟨rfl, _, _, rfl⟩, HB7.out⟩
      · obtain ⟨tn, rfl⟩ : ∃ tn : Nat, t = (tn : Int) := ⟨t.toNat, by omega⟩
        have htl : tn < (tableS h).length := by omega
        have hct := containsU32_any _ _ c w3 HCH.out hcn
        cases hcc : (chL (tableS h)).contains c with
        | false =>
          rw [hcc] at hct
          have hE7 := HOE.out
          rw [if_neg (by omega), if_neg (by rw [hcc]; decide)] at hE7
          subst hE7
          clear hcc
          have r0 : w3.cell? ⟨N, 0, none⟩ = some (.int .i64 0) := HA3.out.cell rfl
          have r1 : w3.cell? ⟨N, 1, none⟩ = some (.int .u32 0) := HA3.out.cell rfl
          have r2 : w3.cell? ⟨N, 2, none⟩ = some (.slice none 0 0) := HA3.out.cell rfl
          have r3 : w3.cell? ⟨N, 3, none⟩ = some (.int .i64 0) := HA3.out.cell rfl
          have f0 : w3.frozen? ⟨N, 0, none⟩ = false := HA3.out.free 0
          have f1 : w3.frozen? ⟨N, 1, none⟩ = false := HA3.out.free 1
          have f2 : w3.frozen? ⟨N, 2, none⟩ = false := HA3.out.free 2
          have f3 : w3.frozen? ⟨N, 3, none⟩ = false := HA3.out.free 3
          go_wp2_with (go_at_call 18; refine hct.mono ?_; rintro e w4 ⟨rfl, hw4⟩; have hw4 := hw4.symm; subst hw4)
          have HZ7 := Lib.hid (fnd4_set HA3.out (.int .i64 0) (.int .u32 0) (.slice none 0 0) (.int .i64 0))
          have HO7 := Lib.hid (fnd_only w3 N (.int .i64 0) (.int .u32 0) (.slice none 0 0) (.int .i64 0))
          generalize ((((w3.setCell ⟨N, 0, none⟩ (.int .i64 0)).setCell ⟨N, 1, none⟩ (.int .u32 0)).setCell ⟨N, 2, none⟩ (.slice none 0 0)).setCell ⟨N, 3, none⟩ (.int .i64 0)) = w7 at *
          clear r0 r1 r2 r3 f0 f1 f2 f3
          have r0 : w7.cell? ⟨N, 0, none⟩ = some (.int .i64 0) := HZ7.out.cell rfl
          have r1 : w7.cell? ⟨N, 1, none⟩ = some (.int .u32 0) := HZ7.out.cell rfl
          have r2 : w7.cell? ⟨N, 2, none⟩ = some (.slice none 0 0) := HZ7.out.cell rfl
          have r3 : w7.cell? ⟨N, 3, none⟩ = some (.int .i64 0) := HZ7.out.cell rfl
          have HB7 : Hid (Below N w w7) := by
            have h1 := HNB3.out
            exact h1.trans (HO7.out.below (by have := h1.size; omega) (fun k _ hk => by omega))
          try rw [Exit.noGoto_ret]
          refine bodyPost_ret (v := .tuple #[fndV 0 0 (.slice none 0 0) 0, .int .i64 1]) (by simp [results, Tryz.results5, go_sem, r0, r1, r2, r3]; rfl) rfl ?_
          try rw [hN]
          exact ⟨_, rfl, .inl ⟨rfl, _, _, rfl⟩, HB7.out⟩
        | true =>
          rw [hcc] at hct
          have hE7 := HOE.out
          rw [if_neg (by omega), if_pos hcc] at hE7
          subst hE7
          have hcl : c < 2 ^ (tableS h).length := HMC.out (by simpa using hcc)
          have hsee := HSEE.out aa ca ac (chL (tableS h)).length cc tn w3 HTE.out htl hcl (fun k => k < w1.heap.size) (fun k hk => Nat.lt_of_lt_of_le hk HB3.out.size) HAF.out
          rw [Int.toNat_of_nonneg hB0] at hsee
          obtain ⟨F, hF⟩ : ∃ F, oneS B.toNat (tableS h) tn c 0 = F := ⟨_, rfl⟩
          rw [hF] at hsee
          have HFH := Lib.hid hF
          unfold fndV at hsee
          have HSE := Lib.hid hsee
          clear hcc hF hsee
          go_wp2_with (first | (go_at_call 18; refine hct.mono ?_; rintro e w4 ⟨rfl, hw4⟩; have hw4 := hw4.symm; subst hw4) | fail)
          refine HSE.out.mono ?_
          rintro e w4 ⟨rv4, rfl, hr4, -, -, hb4⟩
          obtain ⟨ra, rc, rfl⟩ := hr4.rd.len
          obtain ⟨rn, hrn⟩ : ∃ z, (nats F.2.2.1).length = z := ⟨_, rfl⟩
          rw [hrn] at hr4 ⊢
          have HB4 := Lib.hid (HB3.out.trans (hb4.mono HB3.out.size))
          have HR4 := Lib.hid hr4
          have HA4 := Lib.hid (HA1.out.below HB4.out hN1)
          have HNB4 : Hid (Below N w w4) := by
            have h1 := HB1.out.trans (HB4.out.mono HB1.out.size)
            rw [hN] at h1
            exact h1
          clear hr4 hb4 hrn e0 e1 e2 HSE
          have r0 : w4.cell? ⟨N, 0, none⟩ = some (.int .i64 0) := HA4.out.cell rfl
          have r1 : w4.cell? ⟨N, 1, none⟩ = some (.int .u32 0) := HA4.out.cell rfl
          have r2 : w4.cell? ⟨N, 2, none⟩ = some (.slice none 0 0) := HA4.out.cell rfl
          have r3 : w4.cell? ⟨N, 3, none⟩ = some (.int .i64 0) := HA4.out.cell rfl
          have f0 : w4.frozen? ⟨N, 0, none⟩ = false := HA4.out.free 0
          have f1 : w4.frozen? ⟨N, 1, none⟩ = false := HA4.out.free 1
          have f2 : w4.frozen? ⟨N, 2, none⟩ = false := HA4.out.free 2
          have f3 : w4.frozen? ⟨N, 3, none⟩ = false := HA4.out.free 3
          go_wp2_with fail
          have HZ7 := Lib.hid (fnd4_set HA4.out (.int .i64 (F.1 : Int)) (.int .u32 (F.2.1 : Int)) (.slice ra rn rc) (.int .i64 (F.2.2.2 : Int)))
          have HO7 := Lib.hid (fnd_only w4 N (.int .i64 (F.1 : Int)) (.int .u32 (F.2.1 : Int)) (.slice ra rn rc) (.int .i64 (F.2.2.2 : Int)))
          generalize ((((w4.setCell ⟨N, 0, none⟩ (.int .i64 (F.1 : Int))).setCell ⟨N, 1, none⟩ (.int .u32 (F.2.1 : Int))).setCell ⟨N, 2, none⟩ (.slice ra rn rc)).setCell ⟨N, 3, none⟩ (.int .i64 (F.2.2.2 : Int))) = w7 at *
          clear r0 r1 r2 r3 f0 f1 f2 f3
          have r0 : w7.cell? ⟨N, 0, none⟩ = some (.int .i64 (F.1 : Int)) := HZ7.out.cell rfl
          have r1 : w7.cell? ⟨N, 1, none⟩ = some (.int .u32 (F.2.1 : Int)) := HZ7.out.cell rfl
          have r2 : w7.cell? ⟨N, 2, none⟩ = some (.slice ra rn rc) := HZ7.out.cell rfl
          have r3 : w7.cell? ⟨N, 3, none⟩ = some (.int .i64 (F.2.2.2 : Int)) := HZ7.out.cell rfl
          have HB7 : Hid (Below N w w7) := by
            have h1 := HNB4.out
            exact h1.trans (HO7.out.below (by have := h1.size; omega) (fun k _ hk => by omega))
          try rw [Exit.noGoto_ret]
          refine bodyPost_ret (v := .tuple #[fndV F.1 F.2.1 (.slice ra rn rc) F.2.2.2, .int .i64 0]) (by simp [results, Tryz.results5, go_sem, r0, r1, r2, r3]; rfl) rfl ?_
          have HR7 := Lib.hid (HR4.out.only HO7.out (fun k hk => by show k < _; omega))
          try rw [hN]
          rw [HFH.out]
          exact ⟨_, rfl, HR7.out.rd, HB7.out⟩
  · obtain ⟨er, her⟩ : ∃ er, rowE h 0 c B = er := ⟨_, rfl⟩
    have hoe : oneE h t c B = er := by unfold oneE; rw [if_neg hB, her]
    rw [her] at HTR hB
    rw [hoe, if_neg hB]
    have te : ((er : Int) != 0) = true := by simp; omega
    clear her hoe
    go_enter Tryz.func5, Tryz.ntmps5
    go_wp2_with fail
    refine HTR.out.mono ?_
    rintro e w2 ⟨hb2, hbad, -⟩
    obtain rfl := hbad hB
    have hba := (Below.refl w2.heap.size w2).alloc (Nat.le_refl _) (.cells #[.slice none 0 0, .slice none 0 0, .slice none 0 0] 48)
    have HB3 : Hid (Below w1.heap.size w1 (w2.alloc (.cells #[.slice none 0 0, .slice none 0 0, .slice none 0 0] 48))) := hb2.trans (hba.mono hb2.size)
    have HA3 := Lib.hid (HA1.out.below HB3.out hN1)
    have HNB3 : Hid (Below N w (w2.alloc (.cells #[.slice none 0 0, .slice none 0 0, .slice none 0 0] 48))) := by
      have h1 := HB1.out.trans (HB3.out.mono HB1.out.size)
      rw [hN] at h1
      exact h1
    clear hb2 hba hbad
    have r0 : (w2.alloc (.cells #[.slice none 0 0, .slice none 0 0, .slice none 0 0] 48)).cell? ⟨N, 0, none⟩ = some (.int .i64 0) := HA3.out.cell rfl
    have r1 : (w2.alloc (.cells #[.slice none 0 0, .slice none 0 0, .slice none 0 0] 48)).cell? ⟨N, 1, none⟩ = some (.int .u32 0) := HA3.out.cell rfl
    have r2 : (w2.alloc (.cells #[.slice none 0 0, .slice none 0 0, .slice none 0 0] 48)).cell? ⟨N, 2, none⟩ = some (.slice none 0 0) := HA3.out.cell rfl
    have r3 : (w2.alloc (.cells #[.slice none 0 0, .slice none 0 0, .slice none 0 0] 48)).cell? ⟨N, 3, none⟩ = some (.int .i64 0) := HA3.out.cell rfl
    have f0 : (w2.alloc (.cells #[.slice none 0 0, .slice none 0 0, .slice none 0 0] 48)).frozen? ⟨N, 0, none⟩ = false := HA3.out.free 0
    have f1 : (w2.alloc (.cells #[.slice none 0 0, .slice none 0 0, .slice none 0 0] 48)).frozen? ⟨N, 1, none⟩ = false := HA3.out.free 1
    have f2 : (w2.alloc (.cells #[.slice none 0 0, .slice none 0 0, .slice none 0 0] 48)).frozen? ⟨N, 2, none⟩ = false := HA3.out.free 2
    have f3 : (w2.alloc (.cells #[.slice none 0 0, .slice none 0 0, .slice none 0 0] 48)).frozen? ⟨N, 3, none⟩ = false := HA3.out.free 3
    go_wp2_with fail
    have HZ7 := Lib.hid (fnd4_set HA3.out (.int .i64 0) (.int .u32 0) (.slice none 0 0) (.int .i64 0))
    have HO7 := Lib.hid (fnd_only (w2.alloc (.cells #[.slice none 0 0, .slice none 0 0, .slice none 0 0] 48)) N (.int .i64 0) (.int .u32 0) (.slice none 0 0) (.int .i64 0))
    generalize (((((w2.alloc (.cells #[.slice none 0 0, .slice none 0 0, .slice none 0 0] 48)).setCell ⟨N, 0, none⟩ (.int .i64 0)).setCell ⟨N, 1, none⟩ (.int .u32 0)).setCell ⟨N, 2, none⟩ (.slice none 0 0)).setCell ⟨N, 3, none⟩ (.int .i64 0)) = w7 at *
    clear r0 r1 r2 r3 f0 f1 f2 f3
    have r0 : w7.cell? ⟨N, 0, none⟩ = some (.int .i64 0) := HZ7.out.cell rfl
    have r1 : w7.cell? ⟨N, 1, none⟩ = some (.int .u32 0) := HZ7.out.cell rfl
    have r2 : w7.cell? ⟨N, 2, none⟩ = some (.slice none 0 0) := HZ7.out.cell rfl
    have r3 : w7.cell? ⟨N, 3, none⟩ = some (.int .i64 0) := HZ7.out.cell rfl
    have HB7 : Hid (Below N w w7) := by
      have h1 := HNB3.out
      exact h1.trans (HO7.out.below (by have := h1.size; omega) (fun k _ hk => by omega))
    try rw [Exit.noGoto_ret]
    refine bodyPost_ret (v := .tuple #[fndV 0 0 (.slice none 0 0) 0, .int .i64 (er : Int)]) (by simp [results, Tryz.results5, go_sem, r0, r1, r2, r3]; rfl) rfl ?_
    rw [hN]
    exact ⟨_, rfl, .inl ⟨rfl, _, _, rfl⟩, HB7.out⟩
end Go.Proofs.YtpjfhdljagkefaaGreatDoor
/- The walk of recantlaw15's alive. -/
namespace Go.Proofs.YtpjfhdljagkefaaGreatDoor.WPlain
end Go.Proofs.YtpjfhdljagkefaaGreatDoor.WPlain
namespace Go.Proofs.YtpjfhdljagkefaaGreatDoor.QPlain
end Go.Proofs.YtpjfhdljagkefaaGreatDoor.QPlain
namespace Go.Proofs.YtpjfhdljagkefaaGreatDoor.RPlain
end Go.Proofs.YtpjfhdljagkefaaGreatDoor.RPlain
namespace Go.Proofs.YtpjfhdljagkefaaGreatDoor
open Go.RowKit WPlain QPlain RPlain

def hAlK : List Ev := [⟨0, 1, 0, 0⟩, ⟨1, 1, 0, 0⟩, ⟨2, 1, 0, 0⟩, ⟨3, 1, 0, 5⟩, ⟨6, 1, 0, 0⟩, ⟨9, 1, 0, 0⟩]
def hAlL : List Ev := [⟨0, 1, 0, 0⟩, ⟨1, 1, 0, 0⟩]
theorem srchE_aliveK : srchE hAlK 9 = 0 := by decide +kernel
theorem wldF_aliveK : wldF hAlK 9 = (1, 0, [], [], 1) := by
  have h : (wldF hAlK 9).1 = 1 ∧ (wldF hAlK 9).2.1 = 0 ∧ (wldF hAlK 9).2.2.1 = [] ∧ (wldF hAlK 9).2.2.2.1.length = 0 ∧ (wldF hAlK 9).2.2.2.2 = 1 := by decide +kernel
  exact Prod.ext h.1 (Prod.ext h.2.1 (Prod.ext h.2.2.1 (Prod.ext (List.length_eq_zero_iff.1 h.2.2.2.1) h.2.2.2.2)))
theorem srchE_aliveL : srchE hAlL 9 = 0 := by decide +kernel
theorem wldF_aliveL : (wldF hAlL 9).1 = 0 ∧ (wldF hAlL 9).2.2.2.1.length = 1 := by decide +kernel
set_option maxRecDepth 100000 in
set_option maxHeartbeats 2000000 in
theorem aliveW_any (w : World) (hK : HasK w) : Calls Tryz.prog 10 #[] w fun e w' => e = .returned (.bool true) ∧ Below w.heap.size w w' := by
  have hb0 := (Below.refl w.heap.size w).alloc (Nat.le_refl _) (.cells (evsCells hAlK).toArray 59)
  have hE := evs_at 6 hAlK (At.new w (evsCells hAlK).toArray 59)
  have hE2 : Evs (w.alloc (.cells (evsCells hAlK).toArray 59)) (.slice (some ⟨w.heap.size, 0, none⟩) 2 6) hAlL := evs_cutP hE 2 (by decide)
  have hT := checkW_any _ hAlK 9 _ (hK.later hb0 (Nat.le_refl _)) hE (by simp [hAlK]) (by omega) (by omega)
  have HJ := Lib.hid (fun (W : World) (hW : Below (w.alloc (.cells (evsCells hAlK).toArray 59)).heap.size (w.alloc (.cells (evsCells hAlK).toArray 59)) W) => checkW_any _ hAlL 9 W ((hK.later hb0 (Nat.le_refl _)).later hW (Nat.le_refl _)) (hE2.below hW (Nat.le_refl _)) (by simp [hAlL]) (by omega) (by omega))
  rw [srchE_aliveK, wldF_aliveK] at hT
  simp only [srchE_aliveL] at HJ
  obtain ⟨h1, h2⟩ := wldF_aliveL
  obtain ⟨X, hX⟩ : ∃ X, wldF hAlL 9 = X := ⟨_, rfl⟩
  rw [hX] at h1 h2 HJ
  have hlen : hAlK.length = 6 := rfl
  rw [hlen] at hT
  simp only [evsCells, evCells, hAlK, List.flatMap_cons, List.flatMap_nil, List.append_nil, List.cons_append, List.nil_append] at hT hb0 HJ
  have HT := Lib.hid hT
  have HB0 := Lib.hid hb0
  clear hT hb0 hE hE2 hK hlen hX
  unfold wldV at HT HJ
  go_enter Tryz.func10, Tryz.ntmps10
  go_wp2_with fail
  refine HT.out.mono ?_
  rintro e w2 ⟨rv, ov, rfl, hr, -, ho, hb⟩
  have HB2 := Lib.hid hb
  obtain ⟨b, c, rfl⟩ := hr.rd.len
  obtain ⟨b', c', rfl⟩ := ho.fds.len
  have hn2 : (nats []).length = 0 := rfl
  have hn3 : (([] : List (Nat × List Nat × Nat)).map toFd).length = 0 := rfl
  rw [hn2, hn3]
  obtain ⟨N, hN⟩ : ∃ N, w2.heap.size = N := ⟨_, rfl⟩
  obtain ⟨w3, hw3⟩ : ∃ w3, w2.alloc (.cells #[.int .i64 1, .int .u32 0, .slice b 0 c, .slice b' 0 c', .int .i64 1] 40) = w3 := ⟨_, rfl⟩
  have ha : At w3 N #[.int .i64 1, .int .u32 0, .slice b 0 c, .slice b' 0 c', .int .i64 1] 40 := by
    rw [← hw3, ← hN]; exact At.new w2 _ _
  have hbw : Below w2.heap.size w2 w3 := by rw [← hw3]; exact (Below.refl _ w2).alloc (Nat.le_refl _) _
  have HB3 := Lib.hid (HB2.out.trans (hbw.mono HB2.out.size))
  have HA3 := Lib.hid ha
  have hJ := HJ.out w3 HB3.out
  have HJ3 := Lib.hid hJ
  clear hr ho hb hn2 hn3 ha hbw HT HJ hJ HB2
  go_wp2_with fail
  refine HJ3.out.mono ?_
  rintro e w4 ⟨rv4, ov4, rfl, hr4, -, ho4, hb4⟩
  obtain ⟨b4, c4, rfl⟩ := hr4.rd.len
  obtain ⟨b5, c5, rfl⟩ := ho4.fds.len
  obtain ⟨n4, hn4⟩ : ∃ z, (nats X.2.2.1).length = z := ⟨_, rfl⟩
  have hn5 : (X.2.2.2.1.map toFd).length = 1 := by rw [List.length_map]; exact h2
  rw [hn4, hn5]
  obtain ⟨N5, hN5⟩ : ∃ N, w4.heap.size = N := ⟨_, rfl⟩
  obtain ⟨w5, hw5⟩ : ∃ w5, w4.alloc (.cells #[.int .i64 (X.1 : Int), .int .u32 (X.2.1 : Int), .slice b4 n4 c4, .slice b5 1 c5, .int .i64 (X.2.2.2.2 : Int)] 40) = w5 := ⟨_, rfl⟩
  have ha5 : At w5 N5 #[.int .i64 (X.1 : Int), .int .u32 (X.2.1 : Int), .slice b4 n4 c4, .slice b5 1 c5, .int .i64 (X.2.2.2.2 : Int)] 40 := by
    rw [← hw5, ← hN5]; exact At.new w4 _ _
  have hbw5 : Below w4.heap.size w4 w5 := by rw [← hw5]; exact (Below.refl _ w4).alloc (Nat.le_refl _) _
  have hb35 : Below w3.heap.size w3 w5 := hb4.trans (hbw5.mono hb4.size)
  have HB5 := Lib.hid (HB0.out.trans ((HB3.out.trans (hb35.mono HB3.out.size)).mono HB0.out.size))
  have a3 := HA3.out.below hb35 HA3.out.lt
  have p0 : w5.cell? ⟨N, 0, none⟩ = some (.int .i64 1) := a3.cell rfl
  have p4 : w5.cell? ⟨N, 4, none⟩ = some (.int .i64 1) := a3.cell rfl
  have q0 : w5.cell? ⟨N5, 0, none⟩ = some (.int .i64 (X.1 : Int)) := ha5.cell rfl
  have q3 : w5.cell? ⟨N5, 3, none⟩ = some (.slice b5 1 c5) := ha5.cell rfl
  have t1 : ((X.1 : Int) == 0) = true := by rw [h1]; rfl
  clear hr4 ho4 hb4 hn4 hn5 ha5 hbw5 hb35 a3 HA3 HB3 HJ3 h1 h2 hw3 hN
  go_wp2_with fail
  go_ret
  exact ⟨rfl, HB5.out⟩
end Go.Proofs.YtpjfhdljagkefaaGreatDoor
