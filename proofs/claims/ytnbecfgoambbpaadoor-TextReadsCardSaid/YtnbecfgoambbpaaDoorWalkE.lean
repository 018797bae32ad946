/- The walks of package word's Int and of what it calls. -/
import Derived.Test.YtnbecfgoambbpaaDoorWalkA
import Derived.Test.YtnbecfgoambbpaaDoorPlainB
namespace Go.Proofs.YtnbecfgoambbpaaDoor
open Go.RowKit WPlain

theorem all_take_snoc (s : ByteArray) (k : Nat) (h : k < s.size) : s.data.toList.take (k + 1) = s.data.toList.take k ++ [s[k]] := by
  rw [List.take_succ_eq_append_getElem (by simpa using h)]; rfl

set_option maxHeartbeats 400000 in
theorem areDigits_any (s : ByteArray) (w : World) (hs : s.size ≤ 4294967280) :
    Calls Tryd.prog 77 #[.string s] w fun e w' => e = .returned (.bool (digs s.data.toList)) ∧ w = w' := by
  go_enter Tryd.func77, Tryd.ntmps77
  go_wp2
  go_loop [6] (fun x => ∃ k : Nat, k ≤ s.size ∧ x = .int .i64 k ∧ (s.data.toList.take k).all isDig = true) (fun x => s.size - (intOf x).toNat)
  case atStart => exact ⟨0, by omega, rfl, rfl⟩
  case round =>
    obtain ⟨k, hk, rfl, hall⟩ := hrel
    have HA := Lib.hid hall
    clear hall
    by_cases hlt : k < s.size
    · have hts := all_take_snoc s k hlt
      by_cases hd : isDig s[k] = true
      · have hb := isDig_lo hd
        obtain ⟨hb1, hb2⟩ := hb
        have HE : Hid ((s.data.toList.take (k + 1)).all isDig = true) := by
          unfold Hid; rw [hts, List.all_append, HA.out]; simp [hd]
        have t1 : decide ((s[k].toNat : Int) < 48) = false := by simp; omega
        have t2 : decide ((57 : Int) < (s[k].toNat : Int)) = false := by simp; omega
        clear hts hd HA
        go_wp2
        go_round
        case rel => exact ⟨k + 1, by omega, by go_num, HE.out⟩
        case measure => simp [intOf]; omega
      · have hf : digs s.data.toList = false := by
          unfold digs
          have : s.data.toList.all isDig = false := by
            apply Bool.eq_false_iff.2
            intro h
            rw [List.all_eq_true] at h
            exact hd (h _ (by show s.data.toList[k]'(by simpa using hlt) ∈ _; exact List.getElem_mem _))
          rw [this]; rfl
        have hcase : (s[k].toNat : Int) < 48 ∨ (48 ≤ (s[k].toNat : Int) ∧ 57 < (s[k].toNat : Int)) := by
          simp [isDig] at hd; omega
        have HF := Lib.hid hf
        clear hf hd hts HA
        rcases hcase with h1 | ⟨h1, h2⟩
        · have t1 : decide ((s[k].toNat : Int) < 48) = true := by simp; omega
          go_wp2
          go_ret
          exact ⟨ret_bool HF.out.symm, rfl⟩
        · have t1 : decide ((s[k].toNat : Int) < 48) = false := by simp; omega
          have t2 : decide ((57 : Int) < (s[k].toNat : Int)) = true := by simp; omega
          go_wp2
          go_ret
          exact ⟨ret_bool HF.out.symm, rfl⟩
    · have hks : s.data.toList.take k = s.data.toList := List.take_of_length_le (by have := Lib.size_eq s; omega)
      have hall : s.data.toList.all isDig = true := by rw [← hks]; exact HA.out
      have HF : Hid (digs s.data.toList = !s.data.toList.isEmpty) := by unfold Hid digs; rw [hall]; rfl
      clear hall hks HA
      go_wp2
      go_ret
      exact ⟨ret_bool (by rw [HF.out, Lib.toList_data]), rfl⟩

theorem head_of (s : ByteArray) (h : 0 < s.size) : s.data.toList.head? = some s[0] := by
  have h' : 0 < s.data.toList.length := by simpa using h
  rw [List.head?_eq_getElem?, List.getElem?_eq_getElem h']; rfl

theorem leadsZero_any (s : ByteArray) (b : Bool) (w : World) (hs : s.size ≤ 4294967280) (h0 : 0 < s.size) :
    Calls Tryd.prog 78 #[.string s, .bool b] w fun e w' => e = .returned (.bool (leadZ s.data.toList b)) ∧ w = w' := by
  have hl := Lib.size_eq s
  have hh := head_of s h0
  have hi : (0 : Int) < (s.size : Int) := by omega
  have HF : Hid (leadZ s.data.toList b = ((s[0] == 48) && (b || decide (1 < s.size)))) := by unfold Hid leadZ; rw [hh, hl]; simp
  clear hl hh
  by_cases hz : s[0] = 48
  · have t1 : ((s[0].toNat : Int) == 48) = true := (u8_eq hz).1
    have t2 : (s[0] == 48) = true := by simpa using hz
    have HT := Lib.hid t2
    clear hz t2
    cases b
    · by_cases h1 : 1 < s.size
      · have h1' : (1 : Int) < (s.size : Int) := by omega
        go_enter Tryd.func78, Tryd.ntmps78
        go_wp2
        go_ret
        exact ⟨ret_bool (by rw [HF.out, HT.out]; simp [h1]), rfl⟩
      · have h1' : decide ((1 : Int) < (s.size : Int)) = false := by simp; omega
        go_enter Tryd.func78, Tryd.ntmps78
        go_wp2
        go_ret
        exact ⟨ret_bool (by rw [HF.out, HT.out]; simp [h1]), rfl⟩
    · go_enter Tryd.func78, Tryd.ntmps78
      go_wp2
      go_ret
      exact ⟨ret_bool (by rw [HF.out, HT.out]; simp), rfl⟩
  · have t1 : ((s[0].toNat : Int) == 48) = false := (u8_ne hz).1
    have t2 : (s[0] == 48) = false := by simpa using hz
    have HT := Lib.hid t2
    clear hz t2
    go_enter Tryd.func78, Tryd.ntmps78
    go_wp2
    go_ret
    exact ⟨ret_bool (by rw [HF.out, HT.out]; simp), rfl⟩

theorem isNumber_any (n : Int) (w : World) :
    Calls Tryd.prog 69 #[.int .i64 n] w fun e w' => e = .returned (.bool (inR n)) ∧ w = w' := by
  by_cases h1 : -2147483648 ≤ n
  · by_cases h2 : n ≤ 2147483647
    · have HT : Hid (inR n = true) := by unfold Hid inR; simp [h1, h2]
      go_enter Tryd.func69, Tryd.ntmps69
      go_wp2
      go_ret
      exact ⟨ret_bool HT.out.symm, rfl⟩
    · have HT : Hid (inR n = false) := by unfold Hid inR; simp [h2]
      have t2 : decide (n ≤ 2147483647) = false := by simp; omega
      go_enter Tryd.func69, Tryd.ntmps69
      go_wp2
      go_ret
      exact ⟨ret_bool HT.out.symm, rfl⟩
  · have HT : Hid (inR n = false) := by unfold Hid inR; simp [h1]
    have t2 : decide (-2147483648 ≤ n) = false := by simp; omega
    go_enter Tryd.func69, Tryd.ntmps69
    go_wp2
    go_ret
    exact ⟨ret_bool HT.out.symm, rfl⟩

set_option maxHeartbeats 400000 in
theorem gather_any (s : ByteArray) (w : World) (hs : s.size ≤ 4294967280) (hd : s.data.toList.all isDig = true) :
    Calls Tryd.prog 79 #[.string s] w fun e w' => e = .returned (.int .i64 (gath s.data.toList)) ∧ Below w.heap.size w w' := by
  have HD : Hid (∀ k (h : k < s.size), isDig s[k] = true ∧ (s.data.toList.take k).all isDig = true) := by
    intro k h
    rw [List.all_eq_true] at hd
    refine ⟨hd _ (by show s.data.toList[k]'(by simpa using h) ∈ _; exact List.getElem_mem _), ?_⟩
    rw [List.all_eq_true]
    intro x hx
    exact hd x (List.mem_of_mem_take hx)
  clear hd
  have hmf : ∀ (fn : Fn) (first cap : Array Value) (w : World), (Instr.makeFunc fn first cap).run Tryd.prog w = .ok (.func fn first cap) w := fun _ _ _ _ => rfl
  have hA := At.new w #[.int .i64 0] 2
  have hb := (Below.refl w.heap.size w).alloc (Nat.le_refl _) (.cells #[.int .i64 0] 2)
  go_enter Tryd.func79, Tryd.ntmps79
  go_wp2
  generalize w.alloc (.cells #[.int .i64 0] 2) = w1 at *
  go_loopw [9] (fun x wr => ∃ k : Nat, k ≤ s.size ∧ x = .int .i64 k ∧ At wr w.heap.size #[.int .i64 (gath (s.data.toList.take k))] 2 ∧ Below w.heap.size w wr) (fun x _ => s.size - (intOf x).toNat)
  case atStart => exact ⟨0, by omega, rfl, hA, hb⟩
  case round =>
    clear hA hb
    obtain ⟨k, hk, rfl, hA, hb⟩ := hrel
    have HA := Lib.hid hA
    have hc := hA.cell (i := 0) rfl
    have hf := hA.free 0
    clear hA
    by_cases hlt : k < s.size
    · obtain ⟨hdk, hdt⟩ := HD.out k hlt
      obtain ⟨d1, d2⟩ := isDig_lo hdk
      obtain ⟨g1, g2⟩ := gath_bd _ hdt
      have HE : Hid (gath (s.data.toList.take (k + 1)) = gstep (gath (s.data.toList.take k)) s[k]) := by
        unfold Hid; rw [all_take_snoc s k hlt, gath_snoc]
      clear hdk hdt
      generalize gath (s.data.toList.take k) = g at *
      by_cases hle : g ≤ 2147483648
      · have HG : Hid (gstep g s[k] = g * 10 + ((s[k].toNat : Int) - 48)) := by unfold Hid gstep; rw [if_pos hle]
        go_wp2
        go_end0
        go_wp2
        go_roundw
        case rel => exact ⟨k + 1, by omega, by go_num, by rw [HE.out, HG.out]; exact HA.out.set 0 _, hb.setCell (by simp) _⟩
        case measure => simp [intOf]; omega
      · have HG : Hid (gstep g s[k] = g) := by unfold Hid gstep; rw [if_neg hle]
        go_wp2
        go_end0
        go_wp2
        go_roundw
        case rel => exact ⟨k + 1, by omega, by go_num, by rw [HE.out, HG.out]; exact HA.out, hb⟩
        case measure => simp [intOf]; omega
    · have hks : s.data.toList.take k = s.data.toList := List.take_of_length_le (by have := Lib.size_eq s; omega)
      rw [hks] at hc
      clear hks
      go_wp2
      go_ret
      exact ⟨rfl, hb⟩
end Go.Proofs.YtnbecfgoambbpaaDoor
