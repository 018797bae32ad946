/- The walks of the reference's with, Keeps. -/
import Derived.Test.YtclhbnfnmpabbaaExtG
import Derived.Test.YtclhbnfnmpabbaaCmpF
import Derived.Test.YtclhbnfnmpabbaaTxtS
namespace Go.Proofs.Ytclhbnfnmpabbaa.RPlain
end Go.Proofs.Ytclhbnfnmpabbaa.RPlain
namespace Go.Proofs.Ytclhbnfnmpabbaa
open Go.RowKit RPlain

theorem nats_ints (L : List Nat) : nats L = ints (L.map fun (x : Nat) => (x : Int)) := by simp [nats, ints, Function.comp_def]
theorem hasN_any (v : Value) (L : List Nat) (x : Nat) (w : World) (h : Rd w v (nats L)) (hl : L.length ≤ 65536) :
    Calls Try.prog 27 #[v, .int .i64 (x : Int)] w fun e w' => e = .returned (.bool (L.contains x)) ∧ w = w' := by
  rw [nats_ints] at h
  have he : (L.map fun (y : Nat) => (y : Int)).contains (x : Int) = L.contains x := by
    rw [Bool.eq_iff_iff]
    simp only [List.contains_eq_mem, List.mem_map, decide_eq_true_eq]
    exact ⟨fun ⟨y, hy, e⟩ => by rw [← Int.ofNat_inj.1 e]; exact hy, fun h => ⟨x, h, rfl⟩⟩
  rw [← he]
  exact has_any v _ _ w h (by simp; omega)
/-- does a row keep an order? -/
def keepsR (A row : List Nat) : Bool := stepsP (nxt A) [] row
theorem stepsP_app (p : List Nat → Nat → Bool) : ∀ (t u r : List Nat), stepsP p r (t ++ u) = (stepsP p r t && stepsP p (r ++ t) u) := by
  intro t
  induction t with
  | nil => intro u r; simp [stepsP]
  | cons k t ih =>
    intro u r
    rw [List.cons_append, stepsP, stepsP, ih, Bool.and_assoc, List.append_assoc]
    rfl
theorem stepsP_snoc (p : List Nat → Nat → Bool) (t : List Nat) (k : Nat) : stepsP p [] (t ++ [k]) = (stepsP p [] t && p t k) := by
  rw [stepsP_app]
  simp [stepsP]
theorem keepsR_bad {A row : List Nat} {i : Nat} (hi : i < row.length) (h : nxt A (row.take i) row[i] = false) : keepsR A row = false := by
  unfold keepsR
  have h1 : row = row.take (i + 1) ++ row.drop (i + 1) := (List.take_append_drop _ _).symm
  rw [h1, stepsP_app, List.take_succ_eq_append_getElem hi, stepsP_snoc, h]
  simp
theorem nxt_bad {A pre : List Nat} {k j : Nat} (hj : j < pre.length) (h : k = pre[j] ∨ aft A k pre[j] = true) : nxt A pre k = false := by
  unfold nxt
  rw [List.all_eq_false]
  refine ⟨pre[j], List.getElem_mem hj, ?_⟩
  rcases h with h | h
  · simp [h]
  · simp [h]
theorem nxt_snoc (A pre : List Nat) (k b : Nat) : nxt A (pre ++ [b]) k = (nxt A pre k && (!decide (k = b) && !aft A k b)) := by
  unfold nxt
  rw [List.all_append]
  simp
end Go.Proofs.Ytclhbnfnmpabbaa
