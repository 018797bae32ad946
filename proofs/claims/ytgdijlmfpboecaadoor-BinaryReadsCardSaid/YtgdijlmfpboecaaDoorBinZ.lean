/- The walk of the reference's event. -/
import Derived.Test.YtgdijlmfpboecaaDoorBinY
namespace Go.Proofs.YtgdijlmfpboecaaDoor.WPlain
end Go.Proofs.YtgdijlmfpboecaaDoor.WPlain
namespace Go.Proofs.YtgdijlmfpboecaaDoor.VPlain
end Go.Proofs.YtgdijlmfpboecaaDoor.VPlain
namespace Go.Proofs.YtgdijlmfpboecaaDoor
open Go.RowKit WPlain VPlain BPlain

/-- what event keeps: its answer's block, the number's -/
structure SeE (w w' : World) (nk : Nat) (s : Nat × Nat × Nat) : Prop where
  r : At w' w.heap.size #[.slice none 0 0, .int .i64 0, .int .i64 0] 28
  n : At w' nk #[.int .u64 (s.1 : Nat), .int .i64 (s.2.1 : Nat), .int .i64 (s.2.2 : Nat)] 40
  below : Below w.heap.size w w'
theorem SeE.call {w w' w2 : World} {nk : Nat} {s : Nat × Nat × Nat} (h : SeE w w' nk s) (hb : Below w'.heap.size w' w2) : SeE w w2 nk s :=
  ⟨h.r.below hb h.r.lt, h.n.below hb h.n.lt, h.below.trans (hb.mono h.below.size)⟩
set_option maxRecDepth 100000 in
set_option maxHeartbeats 1000000 in
theorem revent_any (B : Nat) (a ha : Option Addr) (c hc : Nat) (L : List Nat) (h : List Ev) (i hn : Nat) (w : World) (hB : Bin B w a c L) (hBw : B ≤ w.heap.size) (hi : i ≤ L.length)
    (hE : Evs w (.slice ha hn hc) h) (hr : right h = true) (hhl : h.length ≤ 59) :
    Calls Tryd.prog 10 #[.slice a L.length c, .int .i64 i, .slice ha hn hc] w (RbE w h (eventS L i h)) := by
  have hL := hB.small
  have hR := At.new w #[.slice none 0 0, .int .i64 0, .int .i64 0] 28
  have hb1 := (Below.refl w.heap.size w).alloc (Nat.le_refl _) (.cells #[.slice none 0 0, .int .i64 0, .int .i64 0] 28)
  have hlt := numS_lt hB.byte i
  have hle := (numS_le hi).2
  have hN := rnum_ok B a c L 0 i L.length _ (hB.below (hb1.mono hBw)) (Nat.le_trans hBw hb1.size) (Nat.le_refl _) hi
  rw [List.take_length] at hN
  have HY := fun (W : World) (hW : Below w.heap.size w W) (hn0 : (numS L i).1 ≠ 0) (hen : (numS L i).2.1 + (numS L i).1 ≤ L.length) => rbody_any B a ha c hc L h (numS L i).2.1 ((numS L i).2.1 + (numS L i).1) hn W (hB.below (hW.mono hBw)) (Nat.le_trans hBw hW.size) hen (by omega) (hE.below hW (Nat.le_refl _)) hr hhl
  unfold eventS
  obtain ⟨z, hz⟩ : ∃ z, numS L i = z := ⟨_, rfl⟩
  rw [hz] at hlt hle hN HY ⊢
  obtain ⟨n, p, er⟩ := z
  unfold nv at hN
  dsimp only at hlt hle hN HY ⊢
  have HR := Lib.hid hR
  have HB1 := Lib.hid hb1
  have HN := Lib.hid hN
  have HY := Lib.hid HY
  have hs1 : Hid (w.heap.size < (w.alloc (.cells #[.slice none 0 0, .int .i64 0, .int .i64 0] 28)).heap.size) := by unfold Hid; simp
  have h1 : IntKind.i64.wrap ((L.length : Int) - (p : Int)) = ((L.length - p : Nat) : Int) := by rw [IntWalk.i64_in _ (by omega)]; omega
  have h2 : IntKind.u64.wrap ((L.length - p : Nat) : Int) = ((L.length - p : Nat) : Int) := IntWalk.u64_in _ (by omega)
  generalize hm : L.length - p = m at *
  clear hR hb1 hN hz
  obtain ⟨S, hS⟩ : ∃ S, S = if er ≠ 0 then (h, p, er) else if m < n then (h, L.length, 4) else if n = 0 then (h, i, 2) else bodyS (L.take (p + n)) p h := ⟨_, rfl⟩
  rw [← hS]
  have HS0 := Lib.hid hS
  clear hS
  go_enter Tryd.func10, Tryd.ntmps10
  go_wp2_with fail
  generalize w.alloc (.cells #[.slice none 0 0, .int .i64 0, .int .i64 0] 28) = w1 at *
  refine HN.out.mono ?_
  rintro e w2 ⟨rfl, hb2⟩
  have HS : Hid (SeE w (w2.alloc (.cells #[.int .u64 (n : Int), .int .i64 (p : Int), .int .i64 (er : Int)] 40)) w2.heap.size (n, p, er)) :=
    ⟨(HR.out.below hb2 HR.out.lt).alloc _, At.new w2 _ _, (HB1.out.trans (hb2.mono HB1.out.size)).alloc (Nat.le_trans HB1.out.size hb2.size) _⟩
  have n0 := HS.out.n.cell (i := 0) (v := .int .u64 (n : Int)) rfl
  have n1 := HS.out.n.cell (i := 1) (v := .int .i64 (p : Int)) rfl
  have n2 := HS.out.n.cell (i := 2) (v := .int .i64 (er : Int)) rfl
  have r0 := HS.out.r.cell (i := 0) (v := .slice none 0 0) rfl
  have r1 := HS.out.r.cell (i := 1) (v := .int .i64 0) rfl
  have r2 := HS.out.r.cell (i := 2) (v := .int .i64 0) rfl
  have f0 := HS.out.r.free 0
  have f1 := HS.out.r.free 1
  have f2 := HS.out.r.free 2
  clear HR HB1 hb2 HN
  by_cases h0 : er = 0
  · have t0 : ((er : Int) != 0) = false := by simp [h0]
    by_cases hov : m < n
    · have t1 : decide (m < n) = true := decide_eq_true hov
      have HW : Hid (S = (h, L.length, 4)) := by have := HS0.out; rw [if_neg (fun hc => hc h0), if_pos hov] at this; exact this
      clear HS0 h0 HY
      have HFin := Lib.hid (((HS.out.r.set 0 (.slice none 0 0)).set 1 (.int .i64 (L.length : Int))).set 2 (.int .i64 4))
      have HBe := Lib.hid HS.out.below
      go_wp2_with fail
      have e0 := HFin.out.cell (i := 0) (v := (.slice none 0 0)) rfl
      have e1 := HFin.out.cell (i := 1) (v := (.int .i64 (L.length : Int))) rfl
      have e2 := HFin.out.cell (i := 2) (v := (.int .i64 4)) rfl
      exact bodyPost_ret (v := .agg #[(.slice none 0 0), (.int .i64 (L.length : Int)), (.int .i64 4)]) (by simp [results, Tryd.results10, go_sem, e0, e1, e2]) rfl (by rw [HW.out]; exact RbE.bad (by decide) ⟨rfl, ((HBe.out.setCell (p := ⟨w.heap.size, 0, none⟩) (by simp) _).setCell (p := ⟨w.heap.size, 1, none⟩) (by simp) _).setCell (p := ⟨w.heap.size, 2, none⟩) (by simp) _⟩)
    · have t1 : decide (m < n) = false := decide_eq_false hov
      by_cases hn0 : n = 0
      · have t2 : ((n : Int) == 0) = true := by simp [hn0]
        have HW : Hid (S = (h, i, 2)) := by have := HS0.out; rw [if_neg (fun hc => hc h0), if_neg hov, if_pos hn0] at this; exact this
        clear HS0 h0 hn0 HY
        have HFin := Lib.hid (((HS.out.r.set 0 (.slice none 0 0)).set 1 (.int .i64 (i : Int))).set 2 (.int .i64 2))
        have HBe := Lib.hid HS.out.below
        go_wp2_with fail
        have e0 := HFin.out.cell (i := 0) (v := (.slice none 0 0)) rfl
        have e1 := HFin.out.cell (i := 1) (v := (.int .i64 (i : Int))) rfl
        have e2 := HFin.out.cell (i := 2) (v := (.int .i64 2)) rfl
        exact bodyPost_ret (v := .agg #[(.slice none 0 0), (.int .i64 (i : Int)), (.int .i64 2)]) (by simp [results, Tryd.results10, go_sem, e0, e1, e2]) rfl (by rw [HW.out]; exact RbE.bad (by decide) ⟨rfl, ((HBe.out.setCell (p := ⟨w.heap.size, 0, none⟩) (by simp) _).setCell (p := ⟨w.heap.size, 1, none⟩) (by simp) _).setCell (p := ⟨w.heap.size, 2, none⟩) (by simp) _⟩)
      · have t2 : ((n : Int) == 0) = false := by simp; omega
        have HW : Hid (S = bodyS (L.take (p + n)) p h) := by have := HS0.out; rw [if_neg (fun hc => hc h0), if_neg hov, if_neg hn0] at this; exact this
        have hwn : IntKind.i64.wrap (n : Int) = (n : Int) := IntWalk.i64_in _ (by omega)
        have hwp : IntKind.i64.wrap ((p : Int) + (n : Int)) = ((p + n : Nat) : Int) := by rw [IntWalk.i64_in _ (by omega)]; omega
        have HC := Lib.hid (HY.out _ HS.out.below hn0 (by omega))
        clear HS0 h0 hn0 HY
        go_wp2_with fail
        refine HC.out.mono ?_
        rintro e w3 hrb
        have HRB := Lib.hid hrb
        clear HC hrb r0 r1 r2 f0 f1 f2 n0 n1 n2
        by_cases h0 : (bodyS (L.take (p + n)) p h).2.2 = 0
        · obtain ⟨ev, hev, b, rfl, hbl, hat, hb3⟩ := HRB.out.2 h0
          have HS3 := Lib.hid (HS.out.call hb3)
          have r0 := HS3.out.r.cell (i := 0) (v := .slice none 0 0) rfl
          have r1 := HS3.out.r.cell (i := 1) (v := .int .i64 0) rfl
          have r2 := HS3.out.r.cell (i := 2) (v := .int .i64 0) rfl
          have f0 := HS3.out.r.free 0
          have f1 := HS3.out.r.free 1
          have f2 := HS3.out.r.free 2
          have hlt3 := HS.out.r.lt
          have HEv := Lib.hid (((hat.other (a := ⟨w.heap.size, 0, none⟩) (by simp; omega) (.slice (some ⟨b, 0, none⟩) 1 1)).other (a := ⟨w.heap.size, 1, none⟩) (by simp; omega) (.int .i64 ((bodyS (L.take (p + n)) p h).2.1 : Int))).other (a := ⟨w.heap.size, 2, none⟩) (by simp; omega) (.int .i64 0))
          have HLE : Hid (w.heap.size ≤ b) := by unfold Hid; omega
          have H0 := Lib.hid h0
          have HE2 := Lib.hid hev
          clear hat hb3 hlt3 h0 hev hbl HS
          have HS := HS3
          clear HS3
          generalize bodyS (L.take (p + n)) p h = s3 at *
          have HFin := Lib.hid (((HS.out.r.set 0 (.slice (some ⟨b, 0, none⟩) 1 1)).set 1 (.int .i64 (s3.2.1 : Int))).set 2 (.int .i64 0))
          have HBe := Lib.hid HS.out.below
          go_wp2_with fail
          have e0 := HFin.out.cell (i := 0) (v := (.slice (some ⟨b, 0, none⟩) 1 1)) rfl
          have e1 := HFin.out.cell (i := 1) (v := (.int .i64 (s3.2.1 : Int))) rfl
          have e2 := HFin.out.cell (i := 2) (v := (.int .i64 0)) rfl
          exact bodyPost_ret (v := .agg #[(.slice (some ⟨b, 0, none⟩) 1 1), (.int .i64 (s3.2.1 : Int)), (.int .i64 0)]) (by simp [results, Tryd.results10, go_sem, e0, e1, e2]) rfl (by rw [HW.out]; exact ⟨fun hc => absurd H0.out hc, fun _ => ⟨ev, HE2.out, b, rfl, HLE.out, HEv.out, ((HBe.out.setCell (p := ⟨w.heap.size, 0, none⟩) (by simp) _).setCell (p := ⟨w.heap.size, 1, none⟩) (by simp) _).setCell (p := ⟨w.heap.size, 2, none⟩) (by simp) _⟩⟩)
        · obtain ⟨rfl, hb3⟩ := HRB.out.1 h0
          have HS3 := Lib.hid (HS.out.call hb3)
          have r0 := HS3.out.r.cell (i := 0) (v := .slice none 0 0) rfl
          have r1 := HS3.out.r.cell (i := 1) (v := .int .i64 0) rfl
          have r2 := HS3.out.r.cell (i := 2) (v := .int .i64 0) rfl
          have f0 := HS3.out.r.free 0
          have f1 := HS3.out.r.free 1
          have f2 := HS3.out.r.free 2
          have H0 := Lib.hid h0
          clear hb3 h0 HS
          have HS := HS3
          clear HS3
          generalize bodyS (L.take (p + n)) p h = s3 at *
          have HFin := Lib.hid (((HS.out.r.set 0 (.slice none 0 0)).set 1 (.int .i64 (s3.2.1 : Int))).set 2 (.int .i64 (s3.2.2 : Int)))
          have HBe := Lib.hid HS.out.below
          go_wp2_with fail
          have e0 := HFin.out.cell (i := 0) (v := (.slice none 0 0)) rfl
          have e1 := HFin.out.cell (i := 1) (v := (.int .i64 (s3.2.1 : Int))) rfl
          have e2 := HFin.out.cell (i := 2) (v := (.int .i64 (s3.2.2 : Int))) rfl
          exact bodyPost_ret (v := .agg #[(.slice none 0 0), (.int .i64 (s3.2.1 : Int)), (.int .i64 (s3.2.2 : Int))]) (by simp [results, Tryd.results10, go_sem, e0, e1, e2]) rfl (by rw [HW.out]; exact ⟨fun _ => ⟨rfl, ((HBe.out.setCell (p := ⟨w.heap.size, 0, none⟩) (by simp) _).setCell (p := ⟨w.heap.size, 1, none⟩) (by simp) _).setCell (p := ⟨w.heap.size, 2, none⟩) (by simp) _⟩, fun hc => absurd hc H0.out⟩)
  · have t0 : ((er : Int) != 0) = true := by simp; omega
    have HW : Hid (S = (h, p, er)) := by have := HS0.out; rw [if_pos h0] at this; exact this
    have H0 := Lib.hid h0
    clear HS0 h0 HY
    have HFin := Lib.hid (((HS.out.r.set 0 (.slice none 0 0)).set 1 (.int .i64 (p : Int))).set 2 (.int .i64 (er : Int)))
    have HBe := Lib.hid HS.out.below
    go_wp2_with fail
    have e0 := HFin.out.cell (i := 0) (v := (.slice none 0 0)) rfl
    have e1 := HFin.out.cell (i := 1) (v := (.int .i64 (p : Int))) rfl
    have e2 := HFin.out.cell (i := 2) (v := (.int .i64 (er : Int))) rfl
    exact bodyPost_ret (v := .agg #[(.slice none 0 0), (.int .i64 (p : Int)), (.int .i64 (er : Int))]) (by simp [results, Tryd.results10, go_sem, e0, e1, e2]) rfl (by rw [HW.out]; exact RbE.bad H0.out ⟨rfl, ((HBe.out.setCell (p := ⟨w.heap.size, 0, none⟩) (by simp) _).setCell (p := ⟨w.heap.size, 1, none⟩) (by simp) _).setCell (p := ⟨w.heap.size, 2, none⟩) (by simp) _⟩)
end Go.Proofs.YtgdijlmfpboecaaDoor
