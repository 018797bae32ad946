/- The walks of package binary's small functions: fault, number, numberUpTo, end, hasVar, hasVal. -/
import Derived.Test.YtgdijlmfpboecaaDoorKitF
import Derived.Test.YtgdijlmfpboecaaDoorVarG
import Derived.Test.YtgdijlmfpboecaaDoorRows
import Derived.Test.YtgdijlmfpboecaaDoorVarA
import Derived.Test.YtgdijlmfpboecaaDoorOpenBy
import Derived.Test.YtgdijlmfpboecaaDoorKit
import Derived.Test.YtgdijlmfpboecaaDoorShelf
import Derived.Test.YtgdijlmfpboecaaDoorVarZ
import Derived.Test.YtgdijlmfpboecaaDoorTxtS
import Derived.Deep.QuietTactic
import Derived.BigQuiet
import Derived.Lib.Hide
import Derived.RegionTactic
import Derived.Deep.RegionHeld
import Derived.Deep.DrawnRows
import Derived.WalkLawsBesides
import Derived.Laws.AppendOwnNone
import Derived.RangeFuncBox
import Derived.RangeFuncLeaves
import Derived.Shelf.Abstract
import Derived.WalkKit
import Derived.OwnWalkIn
import Derived.TacticsInMore
import Derived.LoopNIn
import Derived.LoopIn
import Derived.Maps.AppendAt
import Derived.Laws.BitsAllLaws
namespace Go.Proofs.YtgdijlmfpboecaaDoor.WPlain
end Go.Proofs.YtgdijlmfpboecaaDoor.WPlain
namespace Go.Proofs.YtgdijlmfpboecaaDoor.VPlain
end Go.Proofs.YtgdijlmfpboecaaDoor.VPlain
namespace Go.Proofs.YtgdijlmfpboecaaDoor
open Go.RowKit WPlain VPlain BPlain

theorem bhasVar_any (k : Nat) (h : k < 10) (w : World) : Calls Tryd.prog 30 #[.int .i64 k] w fun e w' => e = .returned (.bool (hasV k)) ∧ w = w' := by
  rcases ten k h with rfl | rfl | rfl | rfl | rfl | rfl | rfl | rfl | rfl | rfl
  all_goals
    go_enter Tryd.func30, Tryd.ntmps30
    go_wp2
    go_ret
    exact ⟨rfl, rfl⟩
theorem bhasVal_any (k : Nat) (h : k < 10) (w : World) : Calls Tryd.prog 31 #[.int .i64 k] w fun e w' => e = .returned (.bool (hasX k)) ∧ w = w' := by
  rcases ten k h with rfl | rfl | rfl | rfl | rfl | rfl | rfl | rfl | rfl | rfl
  all_goals
    go_enter Tryd.func31, Tryd.ntmps31
    go_wp2
    go_ret
    exact ⟨rfl, rfl⟩

/-- the reader's cells -/
def rdr (i : Nat) (ev b : Value) : Array Value := #[.int .i64 (i : Int), ev, b]

theorem fault_put (g i : Nat) (ev b : Value) (t : TypeId) (p : Nat) (er : Int) (w : World) (hA : At w g (rdr i ev b) t) :
    Calls Tryd.prog 17 #[.pointer (some ⟨g, 0, none⟩), .int .i64 p, .int .i64 er] w fun e w' => e = .returned (.int .i64 er) ∧ At w' g (rdr p ev b) t ∧ Only (· = g) w w' := by
  have hc0 := hA.cell (i := 0) (v := .int .i64 (i : Int)) rfl
  have hf0 := hA.free 0
  have HS := Lib.hid (hA.set 0 (.int .i64 (p : Int)))
  clear hA
  go_enter Tryd.func17, Tryd.ntmps17
  go_wp2
  go_ret
  exact ⟨rfl, HS.out, (Only.refl (· = g) w).setCell (p := ⟨g, 0, none⟩) (fun _ => rfl) _⟩

theorem get_all (B : Nat) (a : Option Addr) (c : Nat) (L : List Nat) (i : Nat) (w : World) (hB : Bin B w a c L) (hi : i ≤ L.length) :
    Calls Tryd.prog 26 #[.slice a L.length c, .int .i64 i] w fun e w' => e = .returned (.tuple #[.int .u64 ((numS L i).1 : Nat), .int .i64 ((numS L i).2.1 : Nat), .int .i64 ((numS L i).2.2 : Nat)]) ∧ w = w' := by
  have hcap := hB.cap
  by_cases h : i = L.length
  · subst h
    have h0 : numS L L.length = (0, L.length, 4) := by unfold numS; rw [List.drop_length]; rfl
    rw [h0]
    exact get_end a L.length c hB.fit (by omega) w
  · obtain ⟨b, o, rfl, _, hc⟩ := hB.read (by omega)
    exact get_in b o c L i (by omega) hB.fit (by omega) hB.byte w hc _ _ _ rfl

set_option maxRecDepth 100000 in
theorem number_any (g i : Nat) (ev : Value) (B : Nat) (a : Option Addr) (c : Nat) (L : List Nat) (w : World) (hA : At w g (rdr i ev (.slice a L.length c)) 36) (hB : Bin B w a c L) (hi : i ≤ L.length) :
    Calls Tryd.prog 16 #[.pointer (some ⟨g, 0, none⟩)] w fun e w' =>
      e = .returned (.tuple #[.int .u64 ((numS L i).1 : Nat), .int .i64 ((numS L i).2.2 : Nat)]) ∧ At w' g (rdr (numS L i).2.1 ev (.slice a L.length c)) 36 ∧ Only (· = g) w w' := by
  have hG := get_all B a c L i
  obtain ⟨p, hp⟩ : ∃ p, numS L i = p := ⟨_, rfl⟩
  obtain ⟨n, q, er⟩ := p
  rw [hp] at hG ⊢
  have HG : Hid (∀ m, Calls Tryd.prog 26 #[.slice a L.length c, .int .i64 i] (w.drewN m) fun e w' => e = .returned (.tuple #[.int .u64 (n : Int), .int .i64 (q : Int), .int .i64 (er : Int)]) ∧ w' = w.drewN m) :=
    fun m => (hG (w.drewN m) (hB.below (below_drewN (Below.refl _ _) m)) hi).mono fun _ _ ⟨h1, h2⟩ => ⟨h1, h2.symm⟩
  have hc0 := hA.cell (i := 0) (v := .int .i64 (i : Int)) rfl
  have hc2 := hA.cell (i := 2) (v := .slice a L.length c) rfl
  have hf0 := hA.free 0
  have HA := Lib.hid hA
  clear hA hB hG hp
  go_enter Tryd.func16, Tryd.ntmps16
  go_wp2_with fail
  go_quiet ((go_at_call 26; exact Calls.quiet_of_same (HG.out _)))
  go_wp2
  go_ret2
  exact ⟨rfl, HA.out.set 0 _, ((Only.refl (· = g) w).drewN _).setCell (p := ⟨g, 0, none⟩) (fun _ => rfl) _⟩

theorem end_any (g i : Nat) (ev : Value) (a : Option Addr) (c n : Nat) (w : World) (hA : At w g (rdr i ev (.slice a n c)) 36) :
    Calls Tryd.prog 13 #[.pointer (some ⟨g, 0, none⟩)] w fun e w' => e = .returned (.int .i64 ((if i < n then 2 else 0 : Nat) : Int)) ∧ ∃ m, w' = w.drewN m := by
  have hc0 := hA.cell (i := 0) (v := .int .i64 (i : Int)) rfl
  have hc2 := hA.cell (i := 2) (v := .slice a n c) rfl
  clear hA
  by_cases h : i < n
  · rw [if_pos h]
    have hd : decide (i < n) = true := decide_eq_true h
    go_enter Tryd.func13, Tryd.ntmps13
    go_wp2_with fail
    go_quiet (fail)
    go_wp2
    go_ret
    exact ⟨rfl, _, rfl⟩
  · rw [if_neg h]
    have hd : decide (i < n) = false := decide_eq_false h
    go_enter Tryd.func13, Tryd.ntmps13
    go_wp2_with fail
    go_quiet (fail)
    go_wp2
    go_ret
    exact ⟨rfl, _, rfl⟩

set_option maxRecDepth 100000 in
theorem upTo_any (g i : Nat) (ev : Value) (B : Nat) (a : Option Addr) (c : Nat) (L : List Nat) (w : World) (hA : At w g (rdr i ev (.slice a L.length c)) 36) (hB : Bin B w a c L) (hi : i ≤ L.length) (most bey : Nat) (_ : most < 4294967296) :
    Calls Tryd.prog 11 #[.pointer (some ⟨g, 0, none⟩), .int .u64 most, .int .i64 bey] w fun e w' =>
      e = .returned (.tuple #[.int .u64 ((upS L i most bey).1 : Nat), .int .i64 ((upS L i most bey).2.2 : Nat)]) ∧ At w' g (rdr (upS L i most bey).2.1 ev (.slice a L.length c)) 36 ∧ Only (· = g) w w' := by
  have hN := number_any g i ev B a c L w hA hB hi
  have hlt := numS_lt hB.byte i
  obtain ⟨r, hr⟩ : ∃ r, upS L i most bey = r := ⟨_, rfl⟩
  have hr' := hr
  unfold upS at hr'
  rw [hr]
  obtain ⟨p, hp⟩ : ∃ p, numS L i = p := ⟨_, rfl⟩
  obtain ⟨n, q, er⟩ := p
  rw [hp] at hN hr' hlt
  have HN := Lib.hid hN
  have hc0 := hA.cell (i := 0) (v := .int .i64 (i : Int)) rfl
  clear hA hB hN hp hr
  dsimp only at hr' hlt
  by_cases h0 : er = 0
  · subst h0
    by_cases hb : most < n
    · rw [if_pos ⟨rfl, hb⟩] at hr'
      subst hr'
      have hd : decide (most < n) = true := decide_eq_true hb
      go_enter Tryd.func11, Tryd.ntmps11
      go_wp2_with fail
      refine HN.out.mono ?_
      rintro e w1 ⟨rfl, hA1, ho1⟩
      have HA1 := Lib.hid hA1
      clear hA1
      go_wp2_with fail
      refine (fault_put g _ _ _ _ i bey w1 HA1.out).mono ?_
      rintro e w2 ⟨rfl, hA2, ho2⟩
      go_wp2
      go_ret2
      exact ⟨rfl, hA2, ho1.trans ho2 (fun _ _ h => h)⟩
    · rw [if_neg (fun h => hb h.2)] at hr'
      subst hr'
      have hd : decide (most < n) = false := decide_eq_false hb
      go_enter Tryd.func11, Tryd.ntmps11
      go_wp2_with fail
      refine HN.out.mono ?_
      rintro e w1 ⟨rfl, hA1, ho1⟩
      go_wp2
      go_ret2
      exact ⟨rfl, hA1, ho1⟩
  · rw [if_neg (fun h => h0 h.1)] at hr'
    subst hr'
    have hd : ((er : Int) == 0) = false := by simp; omega
    go_enter Tryd.func11, Tryd.ntmps11
    go_wp2_with fail
    refine HN.out.mono ?_
    rintro e w1 ⟨rfl, hA1, ho1⟩
    go_wp2
    go_ret2
    exact ⟨rfl, hA1, ho1⟩

end Go.Proofs.YtgdijlmfpboecaaDoor
