/- The walk of package binary's Print. -/
import Derived.Test.YtgebmjbfeakpgaaDoorBinJ
namespace Go.Proofs.YtgebmjbfeakpgaaDoor
open Go.RowKit WPlain VPlain BPlain

theorem right_all {h : List Ev} (hr : right h = true) : h.length ≤ 60 ∧ (∀ e ∈ h, evOk e = true) ∧ (namesOf h).length ≤ 6 := by
  simp only [right, Bool.and_eq_true, decide_eq_true_eq, List.all_eq_true] at hr
  exact ⟨hr.1.1, hr.1.2, hr.2⟩
theorem evB_len {e : Ev} (h : evOk e = true) : (evB e).length ≤ 21 := by
  have := bodyB_len h
  have := nb_len1 (n := (bodyB e).length) (by omega)
  unfold evB
  rw [List.length_append]; omega
theorem flat_len (h : List Ev) (he : ∀ e ∈ h, evOk e = true) : (h.flatMap evB).length ≤ 21 * h.length := by
  induction h with
  | nil => simp
  | cons e r ih =>
    have h1 := evB_len (he e (List.mem_cons_self ..))
    have h2 := ih (fun x hx => he x (List.mem_cons_of_mem _ hx))
    simp only [List.flatMap_cons, List.length_append, List.length_cons]; omega
/-- what is printed ahead of event k -/
def upTo (h : List Ev) (k : Nat) : List Nat := nb h.length ++ (h.take k).flatMap evB
theorem upTo_zero (h : List Ev) : upTo h 0 = nb h.length := by simp [upTo]
theorem upTo_all (h : List Ev) : upTo h h.length = printB h := by simp [upTo, printB]
theorem upTo_succ (h : List Ev) (k : Nat) (hk : k < h.length) : upTo h (k + 1) = upTo h k ++ nb (bodyB h[k]).length ++ bodyB h[k] := by
  unfold upTo
  rw [List.take_succ_eq_append_getElem hk, List.flatMap_append]
  simp [evB, List.append_assoc]
theorem upTo_len (h : List Ev) (he : ∀ e ∈ h, evOk e = true) (h60 : h.length ≤ 60) (k : Nat) : (upTo h k).length ≤ 1300 ∧ 0 < (upTo h k).length := by
  have h1 := flat_len (h.take k) (fun e hx => he e (List.mem_of_mem_take hx))
  have h2 : (h.take k).length ≤ 60 := by rw [List.length_take]; omega
  have h3 := nb_len1 (n := h.length) (by omega)
  unfold upTo
  rw [List.length_append]; omega
theorem own_src {w : World} {B : Nat} {v : Value} {n : Nat} {xs : List Value} (h : w.ownsRow B 5 1 v n xs) (h0 : 0 < n) : ∃ g c, v = .slice (some ⟨g, 0, none⟩) n c := by
  rcases h.2 with ⟨_, h1⟩ | ⟨g, cap, cur, rfl, _⟩
  · omega
  · exact ⟨g, cap, rfl⟩

set_option maxRecDepth 100000 in
theorem print_no (v : Value) (h : List Ev) (w : World) (hK : HasK w) (hv : Evs w v h) (hl : h.length ≤ 65) (hr : right h = false) :
    Calls Tryd.prog 11 #[v] w fun e w' => e = .returned (.tuple #[.slice none 0 0, .int .i64 1]) ∧ Below w.heap.size w w' := by
  have hR := right_any v h w hK hv (by omega)
  rw [hr] at hR
  have HR := Lib.hid hR
  clear hR hr hK hv
  go_enter Tryd.func11, Tryd.ntmps11
  go_wp2_with fail
  refine HR.out.mono ?_
  rintro e w1 ⟨rfl, hb⟩
  go_wp2
  go_ret2
  exact ⟨rfl, hb⟩
set_option maxRecDepth 100000 in
set_option maxHeartbeats 2000000 in
theorem print_yes (v : Value) (h : List Ev) (w : World) (hK : HasK w) (hv : Evs w v h) (hr : right h = true) :
    Calls Tryd.prog 11 #[v] w fun e w' => ∃ z, e = .returned (.tuple #[z, .int .i64 0]) ∧ (w'.ownsRow w.heap.size 5 1 z (printB h).length (bs (printB h)) ∧ Below w.heap.size w w') := by
  obtain ⟨h60, hall, _⟩ := right_all hr
  have hR := right_any v h w hK hv (by omega)
  rw [hr] at hR
  have HR := Lib.hid hR
  have HU := Lib.hid (upTo_succ h)
  have HUL := Lib.hid (upTo_len h hall h60)
  have HUA := Lib.hid (upTo_all h)
  have HALL := Lib.hid hall
  have HV := Lib.hid hv
  have hn10 := nb_len10 (n := h.length) (by omega)
  have hU0 := upTo_zero h
  obtain ⟨a, c, rfl⟩ := hv.len
  clear hR hr hK hv hall
  go_enter Tryd.func11, Tryd.ntmps11
  go_wp2_with fail
  refine HR.out.mono ?_
  rintro e w1 ⟨rfl, hb1⟩
  go_wp2_with fail
  refine (put_any h.length (by omega) _).mono ?_
  rintro e w2 ⟨p, rfl, hown, hb2⟩
  rw [← hU0] at hown
  have HOWN0 := Lib.hid (own_mono hown hb1.size)
  have HB2 := Lib.hid (hb1.trans (hb2.mono hb1.size))
  clear hown hb1 hb2 hU0 HR
  go_wp2_with fail
  go_loopw [4, 17] (fun y x wr => ∃ k : Nat, k ≤ h.length ∧ x = .int .i64 k ∧ Hid (wr.ownsRow w.heap.size 5 1 y (upTo h k).length (bs (upTo h k))) ∧ Hid (Below w.heap.size w wr)) (fun _ x _ => h.length - (intOf x).toNat)
  case atStart => exact ⟨0, Nat.zero_le _, rfl, HOWN0, HB2⟩
  case round =>
    clear HOWN0 HB2
    obtain ⟨k, hk, rfl, HY, HB⟩ := hrel
    by_cases hlt : k < h.length
    · have hvr := HV.out.below HB.out (Nat.le_refl _)
      have hul := HUL.out k
      have HSU := Lib.hid (HU.out k hlt)
      rcases hvr with ⟨e0, _⟩ | ⟨_, b, o, c', he, hbl, hc⟩
      · rw [e0] at hlt; simp at hlt
      · obtain ⟨rfl, rfl⟩ : a = some ⟨b, o, none⟩ ∧ c = c' := by simpa using he
        obtain ⟨c0, c1, c2, c3⟩ := hc k hlt
        have hok := HALL.out h[k] (List.getElem_mem hlt)
        clear hc he
        generalize h[k] = ev at *
        have hbl2 := bodyB_len hok
        have HOK := Lib.hid hok
        obtain ⟨g4, c4, rfl⟩ := own_src HY.out hul.2
        have hbs := HB.out.size
        have hbA := (Below.refl wr.heap.size wr).alloc (Nat.le_refl _) (.cells #[.int .i64 ev.k, .int .i64 ev.t, .int .i64 ev.v, .int .i64 ev.x] 42)
        have HBA := Lib.hid (HB.out.trans (hbA.mono hbs))
        have HYA := Lib.hid (own_below HY.out hbA)
        have hsz : (wr.alloc (.cells #[.int .i64 ev.k, .int .i64 ev.t, .int .i64 ev.v, .int .i64 ev.x] 42)).heap.size = wr.heap.size + 1 := by simp
        clear hok hbA
        go_wp2_with fail
        refine (bodyOf_any ev HOK.out _).mono ?_
        rintro e w3 ⟨z, rfl, hoz, hb3⟩
        have HB3 := Lib.hid (HBA.out.trans (hb3.mono (by omega)))
        have HY3 := Lib.hid (own_below HYA.out hb3)
        obtain ⟨gz, cz, rfl⟩ := own_src hoz hbl2.2
        have HZ3 := Lib.hid hoz
        clear hoz hb3 HBA HYA hsz
        go_wp2_with fail
        refine (putA_any (bodyB ev).length (by omega) _).mono ?_
        rintro e w4 ⟨gp, cp, rfl, hrd, hlen, hb4⟩
        have HB4 := Lib.hid (HB3.out.trans (hb4.mono HB3.out.size))
        have hbA := (Below.refl w4.heap.size w4).alloc (Nat.le_refl _) (.cells #[.slice (some ⟨g4, 0, none⟩) (upTo h k).length c4, .slice (some ⟨gp, 0, none⟩) (nb (bodyB ev).length).length cp, .slice (some ⟨gz, 0, none⟩) (bodyB ev).length cz] 22)
        have hA := At.new w4 #[.slice (some ⟨g4, 0, none⟩) (upTo h k).length c4, .slice (some ⟨gp, 0, none⟩) (nb (bodyB ev).length).length cp, .slice (some ⟨gz, 0, none⟩) (bodyB ev).length cz] 22
        have hY := (Rd.of_row (own_below HY3.out hb4)).below hbA (Nat.le_refl _)
        have hZ := (Rd.of_row (own_below HZ3.out hb4)).below hbA (Nat.le_refl _)
        have hP := hrd.below hbA (Nat.le_refl _)
        have HC := Lib.hid (concat_any w4.heap.size _ _ _ (upTo h k) (nb (bodyB ev).length) (bodyB ev) _ (hA.cell (i := 0) rfl) (hA.cell (i := 1) rfl) (hA.cell (i := 2) rfl) hY hP hZ Rd.src_ Rd.src_ Rd.src_ (by omega) (by omega) (by omega) (nb_pos _))
        have HB5 := Lib.hid (HB4.out.trans (hbA.mono HB4.out.size))
        clear hbA hA hY hZ hP hrd hb4 HB3 HY3 HZ3 HB4
        go_wp2_with fail
        generalize w4.alloc (.cells #[.slice (some ⟨g4, 0, none⟩) (upTo h k).length c4, .slice (some ⟨gp, 0, none⟩) (nb (bodyB ev).length).length cp, .slice (some ⟨gz, 0, none⟩) (bodyB ev).length cz] 22) = w5 at *
        refine HC.out.mono ?_
        rintro e w6 ⟨vb, rfl, hob, hb6⟩
        have HY6 : Hid (w6.ownsRow w.heap.size 5 1 vb (upTo h (k + 1)).length (bs (upTo h (k + 1)))) := by
          unfold Hid
          rw [HSU.out, bs_app, bs_app, List.length_append, List.length_append]
          exact own_mono hob HB5.out.size
        have HB6 := Lib.hid (HB5.out.trans (hb6.mono HB5.out.size))
        clear hob hb6 HC HB5
        go_wp2
        go_roundw
        case rel => exact ⟨k + 1, by omega, by go_num, HY6, HB6⟩
        case measure => simp [intOf]; omega
    · obtain rfl : k = h.length := by omega
      have HY2 := HY.out
      rw [HUA.out] at HY2
      have HYF := Lib.hid HY2
      clear HY HY2
      go_wp2
      go_ret2
      exact ⟨_, rfl, HYF.out, HB.out⟩
end Go.Proofs.YtgebmjbfeakpgaaDoor
