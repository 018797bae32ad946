/- Merged: LegE, LegH, CmpC. -/
import Derived.Test.YtmnblljenobofaaDoorLegD
import Derived.Test.YtmnblljenobofaaDoorLegC
import Derived.Test.YtmnblljenobofaaDoorTabD
import Derived.Test.YtmnblljenobofaaDoorMg11
import Derived.Test.YtmnblljenobofaaDoorMg9
import Derived.Test.YtmnblljenobofaaDoorMg4
import Derived.Test.YtmnblljenobofaaDoorMg6
import Derived.Laws.AppendOwnNone
/- The walks of package legal's Legal, Memory and Own. -/
namespace Go.Proofs.YtmnblljenobofaaDoor.WPlain
end Go.Proofs.YtmnblljenobofaaDoor.WPlain
namespace Go.Proofs.YtmnblljenobofaaDoor.QPlain
end Go.Proofs.YtmnblljenobofaaDoor.QPlain
namespace Go.Proofs.YtmnblljenobofaaDoor.RPlain
end Go.Proofs.YtmnblljenobofaaDoor.RPlain
namespace Go.Proofs.YtmnblljenobofaaDoor.RPlain
open WPlain QPlain

def natsR (row : List Int) : List Nat := row.map Int.toNat
theorem natsR_cast (rn : List Nat) : natsR (rn.map (fun x : Nat => (x : Int))) = rn := by
  unfold natsR
  rw [List.map_map]
  exact (List.map_congr_left (fun x _ => by simp)).trans (List.map_id _)
/-- what Legal answers; the memory that Memory does -/
def legR (h : List Ev) (row : List Int) (n : Nat) : Nat := if errL h row = 0 then legalS (tableS h) n (natsR row) else 0
end Go.Proofs.YtmnblljenobofaaDoor.RPlain
namespace Go.Proofs.YtmnblljenobofaaDoor
open Go.RowKit WPlain QPlain RPlain

theorem ops_table {h : List Ev} (h0 : (checkS h).2 = 0) : ∀ i (hi : i < (tableS h).length), okOps (tableS h)[i].o ∧ (tableS h)[i].o.length ≤ 60 := fun _ hi => table_ops h0 _ (List.getElem_mem hi)
set_option maxRecDepth 100000 in
set_option maxHeartbeats 2000000 in
theorem legal_any (v rv : Value) (h : List Ev) (row : List Int) (n : Nat) (w : World) (hK : HasK w) (hv : Evs w v h) (hl : h.length ≤ 65536) (hr : Rd w rv (ints row)) (hrl : row.length ≤ 65536) (hn : n < 4294967296) :
    Calls Tryd.prog 9 #[v, rv, .int .u32 (n : Int)] w fun e w' => e = .returned (.tuple #[.int .i64 ((legR h row n : Nat) : Int), .int .i64 ((errL h row : Nat) : Int)]) ∧ Below w.heap.size w w' := by
  have HT := Lib.hid (tableOf_any v rv h row w hK hv hl hr hrl)
  have HR := Lib.hid hr
  unfold legR
  by_cases h0 : errL h row = 0
  · obtain ⟨rn, rfl, hrn, hnd, h66⟩ := errL_nil h0
    obtain ⟨hc0, -, -⟩ := errL_zero h0
    have HOK := Lib.hid (ops_table hc0)
    have h6 := table_six hc0
    rw [h0] at HT ⊢
    simp only [if_true] at HT ⊢
    rw [natsR_cast]
    clear h0 hc0 hnd hK hv hr hrl
    generalize tableS h = l at *
    have HLT : Hid (∀ b ∈ rn, b < l.length) := hrn
    have HNX := Lib.hid (fun (k : Nat) (hk : k < rn.length) h1 h2 => legal_next (l := l) (c := n) (M := zeroM) hk h1 h2)
    have HNO := Lib.hid (fun (k : Nat) (hk : k < rn.length) h1 h2 => legal_stop (l := l) (c := n) (M := zeroM) hk h1 h2)
    obtain ⟨res, hres⟩ : ∃ res, legalS l n rn = res := ⟨_, rfl⟩
    rw [hres]
    have HRES : Hid (legalG l n zeroM rn = res) := hres
    clear hres hrn
    obtain ⟨ra, rc, rfl⟩ := HR.out.len
    have hil : (ints (rn.map (fun x : Nat => (x : Int)))).length = rn.length := by simp [ints]
    rw [hil] at HR HT ⊢
    clear hil
    go_enter Tryd.func9, Tryd.ntmps9
    go_wp2_with fail
    refine HT.out.mono ?_
    rintro e w1 ⟨v1, rfl, hv1, hb1⟩
    have HV1 := Lib.hid hv1
    have HB1 := Lib.hid hb1
    obtain ⟨a1, c1, rfl⟩ := hv1.len
    clear hv1 hb1 HT
    have HA0 := Lib.hid (At.new w1 (memC zeroM) 62)
    have HB0 := Lib.hid ((Below.refl w1.heap.size w1).alloc (Nat.le_refl _) (.cells (memC zeroM) 62))
    have hz0 : memC zeroM = #[.int .i64 0, .int .i64 0, .int .i64 0, .int .i64 0, .int .i64 0, .int .i64 0, .int .i64 0, .int .i64 0] := rfl
    rw [hz0] at HA0 HB0
    clear hz0
    go_wp2_with fail
    go_loopw [25] (fun x wr => ∃ k : Nat, k ≤ rn.length ∧ x = .int .i64 k ∧ Hid (legalG l n zeroM (rn.take k) = k) ∧ Hid (At wr w1.heap.size (memC (behindS l n zeroM (rn.take k))) 62) ∧ Hid (Below w1.heap.size w1 wr)) (fun x _ => rn.length - (intOf x).toNat)
    case atStart => exact ⟨0, by omega, rfl, rfl, HA0, HB0⟩
    case round =>
      clear HA0 HB0
      obtain ⟨k, hk, rfl, HG, HA, HB⟩ := hrel
      by_cases hlt : k < rn.length
      · obtain ⟨b, o, c', he, hbl, hcs⟩ := (HR.out.below (HB1.out.trans (HB.out.mono HB1.out.size)) (Nat.le_refl _)).opened (by simp [ints]; omega)
        simp only [Value.slice.injEq] at he
        obtain ⟨rfl, -, rfl⟩ := he
        have hck := hcs k _ (ints_castL rn k hlt)
        have hpl := HLT.out _ (List.getElem_mem hlt)
        have HT2 := Lib.hid (HV1.out.below HB.out (Nat.le_refl _))
        obtain ⟨b2, o2, c2, he2⟩ := HT2.out.opened (by omega)
        simp only [Value.slice.injEq] at he2
        obtain ⟨rfl, -, rfl⟩ := he2
        obtain ⟨ov, x0, x1, x2, x3, x4, q⟩ := HT2.out.get rn[k] hpl
        obtain ⟨ua, uc, rfl, -⟩ := q.len
        obtain ⟨hok, hol⟩ := HOK.out _ hpl
        have HBT := Lib.hid (behind_take (l := l) (c := n) (M := zeroM) hlt)
        have hao : opsAt l rn[k] = l[rn[k]].o := opsAtL_get hpl
        have HNX2 := Lib.hid (HNX.out k hlt HG.out)
        have HNO2 := Lib.hid (HNO.out k hlt HG.out)
        have hle := own_le l[rn[k]].o (behindS l n zeroM (rn.take k))
        rw [hao] at HNX2 HNO2
        have HFW := Lib.hid (fun (W : World) (hW : Below wr.heap.size wr W) => firstWrong_any _ l[rn[k]].o (behindS l n zeroM (rn.take k)) W (q.below hW (Nat.le_refl _)) hok (by omega))
        have HLF := Lib.hid (fun (W : World) (hT : Txs W (.slice (some ⟨b2, o2, none⟩) l.length c1) l) => left_any _ l (behindS l n zeroM (rn.take k)) rn[k] n W hT hpl h6 hn hok (by omega))
        clear hao q hok
        generalize l[rn[k]].o = ops at *
        generalize rn[k] = p at *
        generalize behindS l n zeroM (rn.take k) = MM at *
        obtain ⟨M3, hM3⟩ : ∃ M3, stepM l n MM p = M3 := ⟨_, rfl⟩
        rw [hM3] at HBT HLF
        clear hM3 x0 x1 x2 x3 hcs
        unfold memC at HFW HLF
        generalize ownS MM ops = ow at *
        by_cases how : ow = ops.length
        · have HG2 := Lib.hid (HNX2.out how)
          subst how
          clear HNX2 HNO2 hle
          have m0 := HA.out.cell (i := 0) (v := .int .i64 (MM 0)) rfl
          have m1 := HA.out.cell (i := 1) (v := .int .i64 (MM 1)) rfl
          have m2 := HA.out.cell (i := 2) (v := .int .i64 (MM 2)) rfl
          have m3 := HA.out.cell (i := 3) (v := .int .i64 (MM 3)) rfl
          have m4 := HA.out.cell (i := 4) (v := .int .i64 (MM 4)) rfl
          have m5 := HA.out.cell (i := 5) (v := .int .i64 (MM 5)) rfl
          have m6 := HA.out.cell (i := 6) (v := .int .i64 (MM 6)) rfl
          have m7 := HA.out.cell (i := 7) (v := .int .i64 (MM 7)) rfl
          go_wp2_with (first | (go_at_call 25; refine (HFW.out _ (Below.refl _ _)).mono ?_; rintro e w3 ⟨rfl, hb3⟩; have HA3 := Lib.hid (HA.out.below hb3 HA.out.lt); have HB3 := Lib.hid (HB.out.trans (hb3.mono HB.out.size)); have HT3 := Lib.hid (HT2.out.below hb3 (Nat.le_refl _)); have y4 := (hb3.cell (p := ⟨b2, o2 + p * 5 + 4, none⟩) (cell_lt x4)).trans x4; have n0 := HA3.out.cell (i := 0) (v := .int .i64 (MM 0)) rfl; have n1 := HA3.out.cell (i := 1) (v := .int .i64 (MM 1)) rfl; have n2 := HA3.out.cell (i := 2) (v := .int .i64 (MM 2)) rfl; have n3 := HA3.out.cell (i := 3) (v := .int .i64 (MM 3)) rfl; have n4 := HA3.out.cell (i := 4) (v := .int .i64 (MM 4)) rfl; have n5 := HA3.out.cell (i := 5) (v := .int .i64 (MM 5)) rfl; have n6 := HA3.out.cell (i := 6) (v := .int .i64 (MM 6)) rfl; have n7 := HA3.out.cell (i := 7) (v := .int .i64 (MM 7)) rfl; clear hb3) | (go_at_call 26; refine (HLF.out _ HT3.out).mono ?_; rintro e w4 ⟨rfl, hb4⟩; have HA4 := Lib.hid (HA3.out.below hb4 HA3.out.lt); have HB4 := Lib.hid (HB3.out.trans (hb4.mono HB3.out.size)); have k0 := HA4.out.cell (i := 0) (v := .int .i64 (MM 0)) rfl; have k1 := HA4.out.cell (i := 1) (v := .int .i64 (MM 1)) rfl; have k2 := HA4.out.cell (i := 2) (v := .int .i64 (MM 2)) rfl; have k3 := HA4.out.cell (i := 3) (v := .int .i64 (MM 3)) rfl; have k4 := HA4.out.cell (i := 4) (v := .int .i64 (MM 4)) rfl; have k5 := HA4.out.cell (i := 5) (v := .int .i64 (MM 5)) rfl; have k6 := HA4.out.cell (i := 6) (v := .int .i64 (MM 6)) rfl; have k7 := HA4.out.cell (i := 7) (v := .int .i64 (MM 7)) rfl; have f0 := HA4.out.free 0; have f1 := HA4.out.free 1; have f2 := HA4.out.free 2; have f3 := HA4.out.free 3; have f4 := HA4.out.free 4; have f5 := HA4.out.free 5; have f6 := HA4.out.free 6; have f7 := HA4.out.free 7; clear hb4))
          have HA5 : Hid (At ((((((((w4.setCell ⟨w1.heap.size, 0, none⟩ (.int .i64 (M3 0))).setCell ⟨w1.heap.size, 1, none⟩ (.int .i64 (M3 1))).setCell ⟨w1.heap.size, 2, none⟩ (.int .i64 (M3 2))).setCell ⟨w1.heap.size, 3, none⟩ (.int .i64 (M3 3))).setCell ⟨w1.heap.size, 4, none⟩ (.int .i64 (M3 4))).setCell ⟨w1.heap.size, 5, none⟩ (.int .i64 (M3 5))).setCell ⟨w1.heap.size, 6, none⟩ (.int .i64 (M3 6))).setCell ⟨w1.heap.size, 7, none⟩ (.int .i64 (M3 7))) w1.heap.size (memC (behindS l n zeroM (rn.take (k + 1)))) 62) := by rw [HBT.out, ← memC_set MM M3]; exact ((((((((HA4.out.set 0 (.int .i64 (M3 0))).set 1 (.int .i64 (M3 1))).set 2 (.int .i64 (M3 2))).set 3 (.int .i64 (M3 3))).set 4 (.int .i64 (M3 4))).set 5 (.int .i64 (M3 5))).set 6 (.int .i64 (M3 6))).set 7 (.int .i64 (M3 7)))
          have HB5 : Hid (Below w1.heap.size w1 ((((((((w4.setCell ⟨w1.heap.size, 0, none⟩ (.int .i64 (M3 0))).setCell ⟨w1.heap.size, 1, none⟩ (.int .i64 (M3 1))).setCell ⟨w1.heap.size, 2, none⟩ (.int .i64 (M3 2))).setCell ⟨w1.heap.size, 3, none⟩ (.int .i64 (M3 3))).setCell ⟨w1.heap.size, 4, none⟩ (.int .i64 (M3 4))).setCell ⟨w1.heap.size, 5, none⟩ (.int .i64 (M3 5))).setCell ⟨w1.heap.size, 6, none⟩ (.int .i64 (M3 6))).setCell ⟨w1.heap.size, 7, none⟩ (.int .i64 (M3 7)))) := ((((((((HB4.out.setCell (p := ⟨w1.heap.size, 0, none⟩) (Nat.le_refl _) (.int .i64 (M3 0))).setCell (p := ⟨w1.heap.size, 1, none⟩) (Nat.le_refl _) (.int .i64 (M3 1))).setCell (p := ⟨w1.heap.size, 2, none⟩) (Nat.le_refl _) (.int .i64 (M3 2))).setCell (p := ⟨w1.heap.size, 3, none⟩) (Nat.le_refl _) (.int .i64 (M3 3))).setCell (p := ⟨w1.heap.size, 4, none⟩) (Nat.le_refl _) (.int .i64 (M3 4))).setCell (p := ⟨w1.heap.size, 5, none⟩) (Nat.le_refl _) (.int .i64 (M3 5))).setCell (p := ⟨w1.heap.size, 6, none⟩) (Nat.le_refl _) (.int .i64 (M3 6))).setCell (p := ⟨w1.heap.size, 7, none⟩) (Nat.le_refl _) (.int .i64 (M3 7)))
          go_roundw
          case rel => exact ⟨k + 1, by omega, by go_num, HG2.out, HA5.out, HB5.out⟩
          case measure => simp [intOf]; omega
        · have hres := HNO2.out how
          rw [HRES.out] at hres
          subst hres
          have how2 : ow < ops.length := by omega
          clear HNX2 HNO2 hle how HBT HLF
          have m0 := HA.out.cell (i := 0) (v := .int .i64 (MM 0)) rfl
          have m1 := HA.out.cell (i := 1) (v := .int .i64 (MM 1)) rfl
          have m2 := HA.out.cell (i := 2) (v := .int .i64 (MM 2)) rfl
          have m3 := HA.out.cell (i := 3) (v := .int .i64 (MM 3)) rfl
          have m4 := HA.out.cell (i := 4) (v := .int .i64 (MM 4)) rfl
          have m5 := HA.out.cell (i := 5) (v := .int .i64 (MM 5)) rfl
          have m6 := HA.out.cell (i := 6) (v := .int .i64 (MM 6)) rfl
          have m7 := HA.out.cell (i := 7) (v := .int .i64 (MM 7)) rfl
          go_wp2_with (go_at_call 25; refine (HFW.out _ (Below.refl _ _)).mono ?_; rintro e w3 ⟨rfl, hb3⟩; have HA3 := Lib.hid (HA.out.below hb3 HA.out.lt); have HB3 := Lib.hid (HB.out.trans (hb3.mono HB.out.size)); have HT3 := Lib.hid (HT2.out.below hb3 (Nat.le_refl _)); have y4 := (hb3.cell (p := ⟨b2, o2 + p * 5 + 4, none⟩) (cell_lt x4)).trans x4; have n0 := HA3.out.cell (i := 0) (v := .int .i64 (MM 0)) rfl; have n1 := HA3.out.cell (i := 1) (v := .int .i64 (MM 1)) rfl; have n2 := HA3.out.cell (i := 2) (v := .int .i64 (MM 2)) rfl; have n3 := HA3.out.cell (i := 3) (v := .int .i64 (MM 3)) rfl; have n4 := HA3.out.cell (i := 4) (v := .int .i64 (MM 4)) rfl; have n5 := HA3.out.cell (i := 5) (v := .int .i64 (MM 5)) rfl; have n6 := HA3.out.cell (i := 6) (v := .int .i64 (MM 6)) rfl; have n7 := HA3.out.cell (i := 7) (v := .int .i64 (MM 7)) rfl; clear hb3)
          refine bodyPost_ret (v := .tuple #[.int .i64 (res : Int), .int .i64 0]) (by simp [results, Tryd.results9, go_sem]) rfl ⟨rfl, HB1.out.trans (HB3.out.mono HB1.out.size)⟩
      · obtain rfl : k = rn.length := by omega
        have hres : rn.length = res := by have := HG.out; rw [List.take_length, HRES.out] at this; exact this.symm
        subst hres
        go_wp2
        refine bodyPost_ret (v := .tuple #[.int .i64 (rn.length : Int), .int .i64 0]) (by simp [results, Tryd.results9, go_sem]) rfl ⟨rfl, HB1.out.trans (HB.out.mono HB1.out.size)⟩
  · simp only [if_neg h0] at HT ⊢
    obtain ⟨er, her⟩ : ∃ er, errL h row = er := ⟨_, rfl⟩
    rw [her] at HT h0 ⊢
    have te : ((er : Int) != 0) = true := by simp; omega
    clear her hK hv hl hr
    go_enter Tryd.func9, Tryd.ntmps9
    go_wp2_with fail
    refine HT.out.mono ?_
    rintro e w1 ⟨v1, rfl, hv1, hb1⟩
    obtain ⟨a1, c1, rfl⟩ := hv1.len
    go_wp2
    refine bodyPost_ret (v := .tuple #[.int .i64 0, .int .i64 er]) (by simp [results, Tryd.results9, go_sem]) rfl ⟨rfl, hb1⟩
end Go.Proofs.YtmnblljenobofaaDoor
/- The walks of the reference's Put, Get and With: a memory told as writes, the last one first. -/
namespace Go.Proofs.YtmnblljenobofaaDoor.WPlain
end Go.Proofs.YtmnblljenobofaaDoor.WPlain
namespace Go.Proofs.YtmnblljenobofaaDoor.QPlain
end Go.Proofs.YtmnblljenobofaaDoor.QPlain
namespace Go.Proofs.YtmnblljenobofaaDoor.RPlain
end Go.Proofs.YtmnblljenobofaaDoor.RPlain
namespace Go.Proofs.YtmnblljenobofaaDoor.RPlain
open WPlain QPlain

end Go.Proofs.YtmnblljenobofaaDoor.RPlain
namespace Go.Proofs.YtmnblljenobofaaDoor
open Go.RowKit WPlain QPlain RPlain

/-- a memory's row of writes -/
def Mm (w : World) (u : Value) (L : List Rwo) : Prop := Opv w u L ∧ Src u
theorem Mm.below {w w' : World} {B : Nat} {u : Value} {L : List Rwo} (h : Mm w u L) (hb : Below B w w') (hB : w.heap.size ≤ B) : Mm w' u L := ⟨h.1.below hb hB, h.2⟩
theorem Mm.nil (w : World) : Mm w (.slice none 0 0) [] := ⟨Opv.nil _ _ _, .inl rfl⟩
/-- a cell of the call's own that holds a slice is none of a row of Ops -/
theorem Opv.set {w : World} {u : Value} {L : List Rwo} (h : Opv w u L) {N : Nat} {x : Option Addr} {y z : Nat} {T : TypeId} (hA : At w N #[.slice x y z] T) (v : Value) : Opv (w.setCell ⟨N, 0, none⟩ v) u L := by
  refine ⟨?_, h.2⟩
  rcases h.1 with h0 | ⟨h0, b, o, c, rfl, hbl, hc⟩
  · exact .inl h0
  · have hne : b ≠ N := by
      rintro rfl
      have h1 := hc 0 h0 0 (.bool L[0].w) (by omega) rfl
      rw [Nat.zero_mul, Nat.add_zero] at h1
      unfold At at hA
      simp only [World.cell?, hA] at h1
      match o, h1 with
      | 0, h1 => simp at h1
      | o + 1, h1 => simp at h1
    have hh := Below.heap_setCell w ⟨N, 0, none⟩ v b hne
    refine .inr ⟨h0, b, o, c, rfl, by simpa [World.setCell] using hbl, fun i hi j q hj hq => ?_⟩
    have h1 := hc i hi j q hj hq
    unfold World.cell? at h1 ⊢
    rw [hh]
    exact h1
end Go.Proofs.YtmnblljenobofaaDoor
/- Plain words: the subsets of bits, one after the other; choices as what must be and a subset of what may be. -/
namespace Go.Proofs.YtmnblljenobofaaDoor.WPlain
end Go.Proofs.YtmnblljenobofaaDoor.WPlain
namespace Go.Proofs.YtmnblljenobofaaDoor.QPlain
end Go.Proofs.YtmnblljenobofaaDoor.QPlain
namespace Go.Proofs.YtmnblljenobofaaDoor.RPlain
open WPlain QPlain

/-- the subset behind a subset: none, behind the last -/
def nxB (p s : Nat) : Nat := (s + 4294967296 - p) % 4294967296 &&& p
def inB6 (p m : Nat) : Bool := decide (m &&& p = m)
def subU (p s : Nat) : List Nat := (List.range s).filter (inB6 p)
theorem nx_step : ∀ p < 64, ∀ s < 64, inB6 p s = true → (nxB p s = 0 ∧ subU p (s + 1) = subU p 64) ∨ (s < nxB p s ∧ nxB p s < 64 ∧ inB6 p (nxB p s) = true ∧ subU p (s + 1) = subU p (nxB p s)) := by decide +kernel
theorem sub_snoc {p s : Nat} (h : inB6 p s = true) : subU p (s + 1) = subU p s ++ [s] := by unfold subU; rw [List.range_succ, List.filter_append]; simp [h]
theorem or_add6 : ∀ a < 64, ∀ b < 64, a &&& b = 0 → a ||| b = a + b := by decide +kernel
theorem and_lt6 (a : Nat) {b : Nat} (h : b < 64) : a &&& b < 64 := Nat.lt_of_le_of_lt Nat.and_le_right h
theorem rise_eq : ∀ {a b : List Nat}, a.Pairwise (· < ·) → b.Pairwise (· < ·) → (∀ x, x ∈ a ↔ x ∈ b) → a = b := by
  intro a
  induction a with
  | nil =>
    intro b _ _ h
    cases b with
    | nil => rfl
    | cons y s => exact absurd ((h y).2 (List.mem_cons_self ..)) (by simp)
  | cons x r ih =>
    intro b ha hb h
    cases b with
    | nil => exact absurd ((h x).1 (List.mem_cons_self ..)) (by simp)
    | cons y s =>
      obtain ⟨hx, hr⟩ := List.pairwise_cons.1 ha
      obtain ⟨hy, hs⟩ := List.pairwise_cons.1 hb
      have hxy : x = y := by
        rcases List.mem_cons.1 ((h x).1 (List.mem_cons_self ..)) with h1 | h1
        · exact h1
        · rcases List.mem_cons.1 ((h y).2 (List.mem_cons_self ..)) with h2 | h2
          · exact h2.symm
          · have := hx y h2; have := hy x h1; omega
      subst hxy
      rw [ih hr hs]
      intro z
      constructor
      · intro hz
        rcases List.mem_cons.1 ((h z).1 (List.mem_cons_of_mem _ hz)) with h1 | h1
        · have := hx z hz; omega
        · exact h1
      · intro hz
        rcases List.mem_cons.1 ((h z).2 (List.mem_cons_of_mem _ hz)) with h1 | h1
        · have := hy z hz; omega
        · exact h1
/-- the bits of those of a state -/
def stB (l : List Tx) (s : Int) (k : Nat) : Bool := match l[k]? with | some X => decide (X.s = s) | none => false
def stN (l : List Tx) (s : Int) : Nat := bitsN (stB l s) l.length
theorem stN_test (l : List Tx) (s : Int) (j : Nat) : (stN l s).testBit j = true ↔ ∃ h : j < l.length, l[j].s = s := by
  unfold stN stB
  rw [bitsN_test]
  by_cases hj : j < l.length
  · rw [List.getElem?_eq_getElem hj]
    simp [hj]
  · simp [hj]
theorem stN_lt {l : List Tx} (h6 : l.length ≤ 6) (s : Int) : stN l s < 64 := Nat.lt_of_lt_of_le (bitsN_lt _ _) (Nat.pow_le_pow_right (n := 2) (i := l.length) (j := 6) (by decide) h6)
theorem st_apart (l : List Tx) {s t : Int} (h : s ≠ t) : stN l s &&& stN l t = 0 := by
  refine Nat.eq_of_testBit_eq fun j => ?_
  rw [Nat.testBit_and, Nat.zero_testBit, Bool.and_eq_false_iff]
  cases h1 : (stN l s).testBit j with
  | false => exact .inl rfl
  | true =>
    right
    cases h2 : (stN l t).testBit j with
    | false => rfl
    | true =>
      obtain ⟨_, e1⟩ := (stN_test l s j).1 h1
      obtain ⟨_, e2⟩ := (stN_test l t j).1 h2
      exact absurd (e1.symm.trans e2) h
theorem in_bit {p m j : Nat} (h : inB6 p m = true) (hj : m.testBit j = true) : p.testBit j = true := by
  have h1 : m &&& p = m := by simpa [inB6] using h
  rw [← h1, Nat.testBit_and, Bool.and_eq_true] at hj
  exact hj.2
theorem bool_iff {a b : Bool} (h : a = true ↔ b = true) : a = b := by cases a <;> cases b <;> simp_all
/-- all choices: what must be, and each subset of what may be -/
theorem subs_chL {l : List Tx} (h6 : l.length ≤ 6) : (subU (stN l 1) 64).map (stN l 2 ||| ·) = chL l := by
  have hp := stN_lt h6 1
  have hq := stN_lt h6 2
  have hapart : ∀ s, inB6 (stN l 1) s = true → stN l 2 &&& s = 0 := fun s hs => by
    refine Nat.eq_of_testBit_eq fun j => ?_
    rw [Nat.testBit_and, Nat.zero_testBit, Bool.and_eq_false_iff]
    cases h2 : s.testBit j with
    | false => exact .inr rfl
    | true =>
      left
      have h3 := in_bit hs h2
      have h4 := st_apart l (s := 2) (t := 1) (by decide)
      cases h5 : (stN l 2).testBit j with
      | false => rfl
      | true =>
        have : (stN l 2 &&& stN l 1).testBit j = true := by rw [Nat.testBit_and, h5, h3]; rfl
        rw [h4, Nat.zero_testBit] at this
        exact absurd this (by decide)
  refine rise_eq ?_ (chL_rise l) fun m => ?_
  · rw [List.pairwise_map]
    refine List.Pairwise.imp_of_mem ?_ (List.Pairwise.filter (inB6 (stN l 1)) (List.pairwise_lt_range (n := 64)))
    intro a b ha hb hab
    obtain ⟨ha1, ha2⟩ := List.mem_filter.1 ha
    obtain ⟨hb1, hb2⟩ := List.mem_filter.1 hb
    rw [or_add6 _ hq a (List.mem_range.1 ha1) (hapart a ha2), or_add6 _ hq b (List.mem_range.1 hb1) (hapart b hb2)]
    omega
  · rw [List.mem_map]
    constructor
    · rintro ⟨s, hs, rfl⟩
      obtain ⟨h1, h2⟩ := List.mem_filter.1 hs
      have hbit : ∀ j, (stN l 2 ||| s).testBit j = true → ∃ h : j < l.length, l[j].s = 2 ∨ l[j].s = 1 := fun j hj => by
        rw [Nat.testBit_or, Bool.or_eq_true] at hj
        rcases hj with hj | hj
        · obtain ⟨h3, h4⟩ := (stN_test l 2 j).1 hj
          exact ⟨h3, .inl h4⟩
        · obtain ⟨h3, h4⟩ := (stN_test l 1 j).1 (in_bit h2 hj)
          exact ⟨h3, .inr h4⟩
      refine mem_chL.2 ⟨Nat.lt_pow_two_of_testBit _ fun j hj => ?_, choiceG_of fun j hj => ?_⟩
      · cases hc : (stN l 2 ||| s).testBit j with
        | false => rfl
        | true => obtain ⟨hh, _⟩ := hbit j hc; omega
      · rw [Nat.zero_add]
        cases hc : (stN l 2 ||| s).testBit j with
        | true =>
          obtain ⟨_, hh | hh⟩ := hbit j hc
          · simp [okBit, hh]
          · simp [okBit, hh]
        | false =>
          by_cases hs2 : l[j].s = 2
          · rw [Nat.testBit_or, (stN_test l 2 j).2 ⟨hj, hs2⟩] at hc; exact absurd hc (by simp)
          · simp [okBit, hs2]
    · intro hm
      refine ⟨m &&& stN l 1, List.mem_filter.2 ⟨List.mem_range.2 (and_lt6 m hp), ?_⟩, ?_⟩
      · unfold inB6
        rw [decide_eq_true_eq, Nat.and_assoc, Nat.and_self]
      · have hm2 := mem_chL.1 hm
        refine Nat.eq_of_testBit_eq fun j => ?_
        rw [Nat.testBit_or, Nat.testBit_and]
        refine bool_iff ?_
        rw [Bool.or_eq_true, Bool.and_eq_true, stN_test, stN_test]
        by_cases hj : j < l.length
        · have h1 := choice_at hm2.2 hj
          rw [Nat.zero_add] at h1
          constructor
          · rintro (⟨_, hs⟩ | ⟨hx, _⟩)
            · cases hx : m.testBit j with
              | true => rfl
              | false => rw [hx] at h1; simp [okBit, hs] at h1
            · exact hx
          · intro hx
            rw [hx] at h1
            unfold okBit at h1
            rw [if_pos rfl, Bool.or_eq_true, decide_eq_true_eq, decide_eq_true_eq] at h1
            rcases h1 with h1 | h1
            · exact .inr ⟨hx, hj, h1⟩
            · exact .inl ⟨hj, h1⟩
        · have e1 : m.testBit j = false := Nat.testBit_lt_two_pow (Nat.lt_of_lt_of_le hm2.1 (Nat.pow_le_pow_right (n := 2) (by decide) (by omega)))
          rw [e1]
          constructor
          · rintro (⟨hh, _⟩ | ⟨hh, _⟩)
            · exact absurd hh hj
            · exact absurd hh (by decide)
          · intro hh; exact absurd hh (by decide)
end Go.Proofs.YtmnblljenobofaaDoor.RPlain
