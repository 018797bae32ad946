/- The walk of package world's among: an order of some places alone. -/
import Derived.Test.YtpjfhdljagkefaaGreatDoorMg16
namespace Go.Proofs.YtpjfhdljagkefaaGreatDoor.WPlain
end Go.Proofs.YtpjfhdljagkefaaGreatDoor.WPlain
namespace Go.Proofs.YtpjfhdljagkefaaGreatDoor.QPlain
end Go.Proofs.YtpjfhdljagkefaaGreatDoor.QPlain
namespace Go.Proofs.YtpjfhdljagkefaaGreatDoor.RPlain
end Go.Proofs.YtpjfhdljagkefaaGreatDoor.RPlain
namespace Go.Proofs.YtpjfhdljagkefaaGreatDoor
open Go.RowKit WPlain QPlain RPlain

/-- one place's bits among the places -/
def amB (A pl : List Nat) (i k : Nat) : Bool := aft A (pl.getD i 0) (pl.getD k 0)
/-- what stands when i rows are done, and k places of the next -/
def accT (A pl : List Nat) (i k : Nat) : List Nat := (List.range pl.length).map fun r => if r < i then bitsN (amB A pl r) pl.length else if r = i then bitsN (amB A pl r) k else 0
theorem accT_start (A pl : List Nat) : madeCells #[.int .u32 0] pl.length = (u32s (accT A pl 0 0)).toArray := by
  have h1 : u32s (accT A pl 0 0) = List.replicate pl.length (.int .u32 0) := by
    refine List.ext_getElem (by simp [u32s, accT]) fun i h1 h2 => ?_
    simp [u32s, accT, bitsN]
  rw [h1]
  apply Array.ext'
  refine List.ext_getElem (by simp [madeCells]) fun i h1 h2 => ?_
  simp [madeCells, Nat.mod_one]
theorem accT_next (A pl : List Nat) (i : Nat) : accT A pl i pl.length = accT A pl (i + 1) 0 := by
  unfold accT
  refine List.map_congr_left fun r _ => ?_
  by_cases h1 : r < i
  · rw [if_pos h1, if_pos (by omega)]
  · rw [if_neg h1]
    by_cases h2 : r = i
    · rw [if_pos h2, if_pos (by omega)]
    · rw [if_neg h2, if_neg (by omega)]
      split <;> rfl
theorem accT_all (A pl : List Nat) : accT A pl pl.length 0 = amongL A pl := by
  unfold accT amongL
  refine List.map_congr_left fun r hr => ?_
  rw [if_pos (List.mem_range.1 hr)]
  rfl
theorem accT_get {A pl : List Nat} {i k : Nat} (hi : i < pl.length) : (u32s (accT A pl i k)).toArray[i]? = some (.int .u32 (bitsN (amB A pl i) k : Nat)) := by
  simp [u32s, accT, hi]
theorem accT_skip {A pl : List Nat} {i k : Nat} (hb : amB A pl i k = false) : accT A pl i (k + 1) = accT A pl i k := by
  unfold accT
  refine List.map_congr_left fun r _ => ?_
  by_cases h2 : r = i
  · subst h2
    rw [bitsN_no hb]
  · rw [if_neg h2, if_neg h2]
theorem accT_set {A pl : List Nat} {i k : Nat} (hb : amB A pl i k = true) :
    (u32s (accT A pl i k)).toArray.setIfInBounds i (.int .u32 ((bitsN (amB A pl i) k ||| 2 ^ k : Nat) : Int)) = (u32s (accT A pl i (k + 1))).toArray := by
  apply Array.ext'
  rw [Array.toList_setIfInBounds]
  refine List.ext_getElem (by simp [u32s, accT]) fun r h1 h2 => ?_
  rw [List.getElem_set]
  simp only [u32s, accT, List.getElem_map, List.getElem_range]
  by_cases hx : i = r
  · subst hx
    rw [if_pos rfl, if_neg (Nat.lt_irrefl _), if_pos rfl, bitsN_yes hb]
  · rw [if_neg hx]
    by_cases h3 : r < i
    · rw [if_pos h3, if_pos h3]
    · rw [if_neg h3, if_neg h3, if_neg (fun h => hx h.symm), if_neg (fun h => hx h.symm)]
/-- what holds between two places -/
structure Amg (w : World) (ha ca av : Value) (A pl : List Nat) (i k : Nat) (W : World) : Prop where
  box : At W w.heap.size #[ha, av, ca] 48
  acc : At W (w.heap.size + 1) (u32s (accT A pl i k)).toArray 23
  bel : Below w.heap.size w W
theorem Amg.later {w : World} {ha ca av : Value} {A pl : List Nat} {i k : Nat} {W W' : World} (h : Amg w ha ca av A pl i k W) (hb : Below W.heap.size W W') : Amg w ha ca av A pl i k W' :=
  ⟨h.box.below hb h.box.lt, h.acc.below hb h.acc.lt, h.bel.trans (hb.mono h.bel.size)⟩
theorem Amg.stored {w : World} {ha ca av : Value} {A pl : List Nat} {i k : Nat} {W : World} (h : Amg w ha ca av A pl i k W) (hb : amB A pl i k = true) :
    Amg w ha ca av A pl i (k + 1) (W.setCell ⟨w.heap.size + 1, i, none⟩ (.int .u32 ((bitsN (amB A pl i) k ||| 2 ^ k : Nat) : Int))) := by
  refine ⟨h.box.other (by dsimp only; omega) _, ?_, h.bel.setCell (p := ⟨w.heap.size + 1, i, none⟩) (by simp) _⟩
  rw [← accT_set hb]
  exact h.acc.set i _
set_option maxRecDepth 100000 in
set_option maxHeartbeats 4000000 in
theorem amongW_any (ha ca : Option Addr) (hn hc cn cc : Nat) (v pv : Value) (A pl : List Nat) (w : World) (hv : Rd w v (u32s A)) (hp : Rd w pv (nats pl)) (hn6 : A.length ≤ 6) (hA : ∀ a ∈ A, a < 4294967296) (hpl : pl.length ≤ 6) (hlt : ∀ p ∈ pl, p < A.length) :
    Calls Tryz.prog 88 #[.agg #[.slice ha hn hc, v, .slice ca cn cc], pv] w fun e w' => e = .returned (.slice (some ⟨w.heap.size + 1, 0, none⟩) pl.length pl.length) ∧ Rd w' (.slice (some ⟨w.heap.size + 1, 0, none⟩) pl.length pl.length) (u32s (amongL A pl)) ∧ Below w.heap.size w w' := by
  have HV := Lib.hid hv
  have HP := Lib.hid hp
  have HA := Lib.hid hA
  have HLT := Lib.hid hlt
  obtain ⟨a, c, rfl⟩ := hv.len
  obtain ⟨pa, pc, rfl⟩ := hp.len
  rw [u32s_len] at HV ⊢
  rw [nats_len] at HP ⊢
  have hmk := run_make_row' (P := Tryz.prog) 46 23 (.int .u32 0) 4 Tryz.underlying46 infoU rfl .i64 .i64 pl.length (by omega) (by omega)
  have H0 : Hid (Amg w (.slice ha hn hc) (.slice ca cn cc) (.slice a A.length c) A pl 0 0 ((w.alloc (.cells #[.slice ha hn hc, .slice a A.length c, .slice ca cn cc] 48)).alloc (.cells (madeCells #[.int .u32 0] pl.length) 23))) := by
    refine ⟨(At.new w _ _).alloc _, ?_, ((Below.refl _ w).alloc (Nat.le_refl _) _).alloc (by simp) _⟩
    rw [accT_start A pl]
    have h := At.new (w.alloc (.cells #[.slice ha hn hc, .slice a A.length c, .slice ca cn cc] 48)) (u32s (accT A pl 0 0)).toArray 23
    rwa [World.size_alloc] at h
  clear hv hp hA hlt
  go_enter Tryz.func88, Tryz.ntmps88
  go_wp2_with (refine wpList_make_row _ rfl _ _ 46 rfl 23 _ (.int .u32 0) 4 Tryz.underlying46 infoU rfl .i64 .i64 pl.length (by omega) (by omega) ?_)
  clear hmk
  go_loopw [15] (fun x wr => ∃ i : Nat, i ≤ pl.length ∧ x = .int .i64 i ∧ Hid (Amg w (.slice ha hn hc) (.slice ca cn cc) (.slice a A.length c) A pl i 0 wr)) (fun x _ => pl.length - (intOf x).toNat)
  case atStart => exact ⟨0, by omega, rfl, H0⟩
  case round =>
    clear H0
    obtain ⟨i, hi, rfl, HM⟩ := hrel
    by_cases hil : i < pl.length
    · obtain ⟨b2, o2, c2, he2, hb2, hc2⟩ := (HP.out.below HM.out.bel (Nat.le_refl _)).opened (by rw [nats_len]; omega)
      have hcp := hc2 i _ (nats_get hil)
      have hpi := HLT.out _ (List.getElem_mem hil)
      simp only [Value.slice.injEq] at he2
      obtain ⟨rfl, -, rfl⟩ := he2
      obtain ⟨b, o, c', he, hb, hc⟩ := HV.out.opened (by rw [u32s_len]; omega)
      have hcA := Lib.hid (hc pl[i] _ (u32s_get hpi))
      have hak := HA.out _ (List.getElem_mem hpi)
      simp only [Value.slice.injEq] at he
      obtain ⟨rfl, -, rfl⟩ := he
      have HAF : Hid (∀ k (hk : k < pl.length), amB A pl i k = (A[pl[i]]).testBit pl[k]) := fun k hk => by
        unfold amB aft
        rw [List.getD_eq_getElem?_getD (l := pl) (i := i), List.getElem?_eq_getElem hil, Option.getD_some, List.getD_eq_getElem?_getD, List.getElem?_eq_getElem hpi, Option.getD_some, List.getD_eq_getElem?_getD, List.getElem?_eq_getElem hk, Option.getD_some]
      generalize A[pl[i]] = ai at *
      have hpi2 : pl[i] < 6 := by omega
      generalize pl[i] = p at *
      clear hc2 hc hb2 hb
      go_wp2_with fail
      clear hcp
      go_loopw [22] (fun x wr => ∃ k : Nat, k ≤ pl.length ∧ x = .int .i64 k ∧ Hid (Amg w (.slice ha hn hc) (.slice ca cn cc) (.slice (some ⟨b, o, none⟩) A.length c) A pl i k wr)) (fun x _ => pl.length - (intOf x).toNat)
      case atStart => exact ⟨0, by omega, rfl, HM⟩
      case round =>
        clear HM
        obtain ⟨k, hk, rfl, HM⟩ := hrel
        by_cases hkl : k < pl.length
        · obtain ⟨b3, o3, c3, he3, -, hc3⟩ := (HP.out.below HM.out.bel (Nat.le_refl _)).opened (by rw [nats_len]; omega)
          have hcq := hc3 k _ (nats_get hkl)
          simp only [Value.slice.injEq, Option.some.injEq, Addr.mk.injEq] at he3
          obtain ⟨⟨rfl, rfl, -⟩, -, rfl⟩ := he3
          clear hc3
          have hqi := HLT.out _ (List.getElem_mem hkl)
          have hq32 : pl[k] < 32 := by omega
          have hkb := wbit_any pl[k] hq32
          have hlt3 : 2 ^ pl[k] < 4294967296 := Nat.pow_lt_pow_right (a := 2) (m := pl[k]) (n := 32) (by decide) hq32
          have hand := u32_and_nat ai (2 ^ pl[k]) hak hlt3
          have hap := and_pow2 ai pl[k]
          rw [← HAF.out k hkl] at hap
          have hpos : 0 < 2 ^ pl[k] := Nat.two_pow_pos pl[k]
          obtain ⟨pw, hpw⟩ : ∃ pw, 2 ^ pl[k] = pw := ⟨_, rfl⟩
          rw [hpw] at hkb hlt3 hand hap hpos
          rw [hap] at hand
          obtain ⟨bb, hbb⟩ : ∃ bb, amB A pl i k = bb := ⟨_, rfl⟩
          have HBB := Lib.hid hbb
          rw [hbb] at hand
          have tq : (((if bb = true then pw else 0 : Nat) : Int) != 0) = bb := by cases bb <;> simp; omega
          obtain ⟨z, hz⟩ : ∃ z, (if bb = true then pw else 0 : Nat) = z := ⟨_, rfl⟩
          rw [hz] at hand tq
          have HPW := Lib.hid hpw
          generalize pl[k] = q at *
          clear hap hz hbb hpw
          go_wp2_with fail
          clear hcq
          refine wp_region_held_drew (S := fun W => W.cell? ⟨w.heap.size, 1, none⟩ = some (.slice (some ⟨b, o, none⟩) A.length c) ∧ W.cell? ⟨b, o + p, none⟩ = some (.int .u32 (ai : Int))) (by kernel_rfl) ⟨HM.out.box.cell rfl, cell_on HM.out.bel hcA.out⟩ (fun hS => ?_)
          refine wpAnyH_take (i := 0) (v := .pointer (some ⟨w.heap.size, 1, none⟩)) rfl (by kernel_rfl) (by kernel_rfl) (by kernel_rfl) (fun _ _ _ h => h) (Or.inl ⟨by rfl, fun W5 hw5 => by go_simp⟩) hS ?_
          simp only [Act.put, List.setIfInBounds_toArray]
          refine wpAnyH_take (i := 1) (v := .slice (some ⟨b, o, none⟩) A.length c) rfl (by kernel_rfl) (by kernel_rfl) (by kernel_rfl) (fun _ _ _ h => h) (Or.inl ⟨by rfl, fun W5 hw5 => by obtain ⟨z, -⟩ := hw5; go_simp⟩) hS ?_
          simp only [Act.put]
          refine wpAnyH_take (i := 2) (v := .int .i64 (p : Int)) rfl (by kernel_rfl) (by kernel_rfl) (by kernel_rfl) (fun _ _ _ h => h) (Or.inl ⟨by rfl, fun W5 hw5 => by go_simp⟩) hS ?_
          simp only [Act.put]
          refine wpAnyH_take (i := 3) (v := .pointer (some ⟨b, o + p, none⟩)) rfl (by kernel_rfl) (by kernel_rfl) (by kernel_rfl) (fun _ _ _ h => h) (Or.inl ⟨by rfl, fun W5 hw5 => by go_simp⟩) hS ?_
          simp only [Act.put]
          refine wpAnyH_take (i := 4) (v := .int .u32 (ai : Int)) rfl (by kernel_rfl) (by kernel_rfl) (by kernel_rfl) (fun _ _ _ h => h) (Or.inl ⟨by rfl, fun W5 hw5 => by obtain ⟨-, z⟩ := hw5; go_simp⟩) hS ?_
          simp only [Act.put]
          refine wpAnyH_take (i := 5) (v := .int .i64 (q : Int)) rfl (by kernel_rfl) (by kernel_rfl) (by kernel_rfl) (fun _ _ _ h => h) (Or.inl ⟨by rfl, fun W5 hw5 => by go_simp⟩) hS ?_
          simp only [Act.put]
          refine wpAnyH_ready (rs := [6]) (by kernel_rfl) (by simp) (AllReadyH.cons rfl (fun K5 hK5 => ?_) AllReadyH.nil)
          go_simp
          refine (hkb _).mono ?_
          rintro e w4 ⟨rfl, hw4⟩
          have hw4 := hw4.symm
          subst hw4
          refine hK5.out _ _ hS (fun _ => ?_)
          clear hK5 K5
          refine wpAnyH_take (i := 7) (v := .int .u32 (z : Int)) rfl (by kernel_rfl) (by kernel_rfl) (by kernel_rfl) (fun _ _ _ h => h) (Or.inl ⟨by rfl, fun W5 hw5 => by go_simp⟩) hS ?_
          simp only [Act.put]
          refine wpAnyH_take (i := 8) (v := .bool bb) rfl (by kernel_rfl) (by kernel_rfl) (by kernel_rfl) (fun _ _ _ h => h) (Or.inl ⟨by rfl, fun W5 hw5 => by go_simp⟩) hS ?_
          simp only [Act.put]
          refine wpAnyH_done (by kernel_rfl) ?_ _
          have HM2 := Lib.hid (HM.out.later (W' := wr.drew) ((Below.refl _ wr).drew))
          clear hS HM hand tq
          cases bb with
          | false =>
            go_wp2
            go_roundw
            case rel => exact ⟨k + 1, by omega, by go_num, ⟨HM2.out.box, by rw [accT_skip HBB.out]; exact HM2.out.acc, HM2.out.bel⟩⟩
            case measure => simp [intOf]; omega
          | true =>
            have hac := bitsN_lt (amB A pl i) k
            have hac2 : bitsN (amB A pl i) k < 4294967296 := Nat.lt_of_lt_of_le hac (Nat.pow_le_pow_right (n := 2) (i := k) (j := 32) (by decide) (by omega))
            have hkb2 := wbit_any k (by omega)
            have hlt5 : 2 ^ k < 4294967296 := Nat.pow_lt_pow_right (a := 2) (m := k) (n := 32) (by decide) (by omega)
            have hor := u32_or_nat _ _ hac2 hlt5
            have hca2 : wr.drew.drew.cell? ⟨w.heap.size + 1, i, none⟩ = some (.int .u32 (bitsN (amB A pl i) k : Nat)) := (HM2.out.later (W' := wr.drew.drew) ((Below.refl _ wr.drew).drew)).acc.cell (accT_get hil)
            have hst2 : wr.drew.drew.frozen? ⟨w.heap.size + 1, i, none⟩ = false := (HM2.out.later (W' := wr.drew.drew) ((Below.refl _ wr.drew).drew)).acc.free i
            have HST := Lib.hid ((HM2.out.later (W' := wr.drew.drew) ((Below.refl _ wr.drew).drew)).stored HBB.out)
            clear HM2 hkb hlt3 hpos hac
            obtain ⟨pk, hpk⟩ : ∃ pk, 2 ^ k = pk := ⟨_, rfl⟩
            rw [hpk] at hkb2 hlt5 hor HST
            generalize bitsN (amB A pl i) k = ac at *
            go_wp2_with fail
            refine wp_region_held_drew (S := fun W => True) (by kernel_rfl) trivial (fun hS => ?_)
            refine wpAnyH_take (i := 0) (v := .slice (some ⟨w.heap.size + 1, 0, none⟩) pl.length pl.length) rfl (by kernel_rfl) (by kernel_rfl) (by kernel_rfl) (fun _ _ _ h => h) (Or.inl ⟨by rfl, fun W5 hw5 => by go_simp⟩) hS ?_
            simp only [Act.put, List.setIfInBounds_toArray]
            refine wpAnyH_take (i := 1) (v := .int .i64 (i : Int)) rfl (by kernel_rfl) (by kernel_rfl) (by kernel_rfl) (fun _ _ _ h => h) (Or.inl ⟨by rfl, fun W5 hw5 => by go_simp⟩) hS ?_
            simp only [Act.put]
            refine wpAnyH_take (i := 2) (v := .pointer (some ⟨w.heap.size + 1, i, none⟩)) rfl (by kernel_rfl) (by kernel_rfl) (by kernel_rfl) (fun _ _ _ h => h) (Or.inl ⟨by rfl, fun W5 hw5 => by go_simp⟩) hS ?_
            simp only [Act.put]
            refine wpAnyH_take (i := 4) (v := .int .i64 (k : Int)) rfl (by kernel_rfl) (by kernel_rfl) (by kernel_rfl) (fun _ _ _ h => h) (Or.inl ⟨by rfl, fun W5 hw5 => by go_simp⟩) hS ?_
            simp only [Act.put]
            refine wpAnyH_ready (rs := [3, 5]) (by kernel_rfl) (by simp) (AllReadyH.cons rfl (fun K5 hK5 => ?_) (AllReadyH.cons rfl (fun K5 hK5 => ?_) AllReadyH.nil))
            · go_simp
              refine hK5.out _ _ hS (fun _ => ?_)
              clear hK5 K5
              refine wpAnyH_ready (rs := [5]) (by kernel_rfl) (by simp) (AllReadyH.cons rfl (fun K5 hK5 => ?_) AllReadyH.nil)
              go_simp
              refine (hkb2 _).mono ?_
              rintro e w4 ⟨rfl, hw4⟩
              have hw4 := hw4.symm
              subst hw4
              refine hK5.out _ _ hS (fun _ => ?_)
              clear hK5 K5
              refine wpAnyH_take (i := 6) (v := .int .u32 ((ac ||| pk : Nat) : Int)) rfl (by kernel_rfl) (by kernel_rfl) (by kernel_rfl) (fun _ _ _ h => h) (Or.inl ⟨by rfl, fun W5 hw5 => by go_simp⟩) hS ?_
              simp only [Act.put]
              refine wpAnyH_take (i := 7) (v := .pointer (some ⟨w.heap.size + 1, i, none⟩)) rfl (by kernel_rfl) (by kernel_rfl) (by kernel_rfl) (fun _ _ _ h => h) (Or.inl ⟨by rfl, fun W5 hw5 => by go_simp⟩) hS ?_
              simp only [Act.put]
              refine wpAnyH_ready (rs := [8]) (by kernel_rfl) (by simp) (AllReadyH.cons rfl (fun K5 hK5 => ?_) AllReadyH.nil)
              go_simp
              refine hK5.out _ _ trivial (fun _ => wpAnyH_done (by kernel_rfl) ?_ _)
              clear hK5 K5
              go_wp2
              go_roundw
              case rel => exact ⟨k + 1, by omega, by go_num, HST⟩
              case measure => simp [intOf]; omega
            · go_simp
              refine (hkb2 _).mono ?_
              rintro e w4 ⟨rfl, hw4⟩
              have hw4 := hw4.symm
              subst hw4
              refine hK5.out _ _ hS (fun _ => ?_)
              clear hK5 K5
              refine wpAnyH_ready (rs := [3]) (by kernel_rfl) (by simp) (AllReadyH.cons rfl (fun K5 hK5 => ?_) AllReadyH.nil)
              go_simp
              refine hK5.out _ _ hS (fun _ => ?_)
              clear hK5 K5
              refine wpAnyH_take (i := 6) (v := .int .u32 ((ac ||| pk : Nat) : Int)) rfl (by kernel_rfl) (by kernel_rfl) (by kernel_rfl) (fun _ _ _ h => h) (Or.inl ⟨by rfl, fun W5 hw5 => by go_simp⟩) hS ?_
              simp only [Act.put]
              refine wpAnyH_take (i := 7) (v := .pointer (some ⟨w.heap.size + 1, i, none⟩)) rfl (by kernel_rfl) (by kernel_rfl) (by kernel_rfl) (fun _ _ _ h => h) (Or.inl ⟨by rfl, fun W5 hw5 => by go_simp⟩) hS ?_
              simp only [Act.put]
              refine wpAnyH_ready (rs := [8]) (by kernel_rfl) (by simp) (AllReadyH.cons rfl (fun K5 hK5 => ?_) AllReadyH.nil)
              go_simp
              refine hK5.out _ _ trivial (fun _ => wpAnyH_done (by kernel_rfl) ?_ _)
              clear hK5 K5
              go_wp2
              go_roundw
              case rel => exact ⟨k + 1, by omega, by go_num, HST⟩
              case measure => simp [intOf]; omega
        · obtain rfl : k = pl.length := by omega
          go_wp2
          go_roundw
          case rel => exact ⟨i + 1, by omega, by go_num, ⟨HM.out.box, by rw [← accT_next]; exact HM.out.acc, HM.out.bel⟩⟩
          case measure => simp [intOf]; omega
    · obtain rfl : i = pl.length := by omega
      have HR : Hid (Rd wr (.slice (some ⟨w.heap.size + 1, 0, none⟩) pl.length pl.length) (u32s (amongL A pl))) := by
        have h := HM.out.acc
        rw [accT_all] at h
        have h2 := Rd.of_at pl.length h
        rwa [u32s_len, amongL_len] at h2
      go_wp2
      go_ret
      exact ⟨rfl, HR.out, HM.out.bel⟩
end Go.Proofs.YtpjfhdljagkefaaGreatDoor
