/- Merged: QckH, SrlD, SrlQ, SrlS, SrlN. -/
import Derived.Test.YtmnblljenobofaaDoorQckE
import Derived.Test.YtmnblljenobofaaDoorMg11
import Derived.Test.YtmnblljenobofaaDoorSrlC
import Derived.Test.YtmnblljenobofaaDoorMg22
import Derived.Test.YtmnblljenobofaaDoorMg12
/- The walk of recantlaw19's alive. -/
namespace Go.Proofs.YtmnblljenobofaaDoor.WPlain
end Go.Proofs.YtmnblljenobofaaDoor.WPlain
namespace Go.Proofs.YtmnblljenobofaaDoor.QPlain
end Go.Proofs.YtmnblljenobofaaDoor.QPlain
namespace Go.Proofs.YtmnblljenobofaaDoor.RPlain
end Go.Proofs.YtmnblljenobofaaDoor.RPlain
namespace Go.Proofs.YtmnblljenobofaaDoor
open Go.RowKit WPlain QPlain RPlain

def hQk : List Ev := [⟨0, 1, 0, 0⟩, ⟨1, 1, 0, 0⟩, ⟨4, 1, 0, 5⟩, ⟨5, 1, 0, 0⟩, ⟨6, 1, 0, 0⟩, ⟨0, 2, 0, 0⟩, ⟨1, 2, 0, 0⟩, ⟨2, 2, 0, 0⟩, ⟨3, 2, 0, 5⟩]
theorem qckE_alive : qckE hQk 9 = 0 := by decide +kernel
theorem qckF_alive : qckF hQk 9 = (0, 1, [0, 1], 1) := by decide +kernel
set_option maxRecDepth 100000 in
set_option maxHeartbeats 2000000 in
theorem aliveQ_any (w : World) (hK : HasK w) : Calls Tryd.prog 5 #[] w fun e w' => e = .returned (.bool true) ∧ Below w.heap.size w w' := by
  have hb0 := (Below.refl w.heap.size w).alloc (Nat.le_refl _) (.cells (evsCells hQk).toArray 46)
  have hE := evs_at 9 hQk (At.new w (evsCells hQk).toArray 46)
  have hT := checkQ_any _ hQk 9 _ (hK.later hb0 (Nat.le_refl _)) hE (by simp [hQk])
  rw [qckE_alive, qckF_alive] at hT
  have hlen : hQk.length = 9 := rfl
  rw [hlen] at hT
  simp only [evsCells, evCells, hQk, List.flatMap_cons, List.flatMap_nil, List.append_nil, List.cons_append, List.nil_append] at hT hb0
  have HT := Lib.hid hT
  have HB0 := Lib.hid hb0
  clear hT hb0 hE hK hlen
  go_enter Tryd.func5, Tryd.ntmps5
  go_wp2_with fail
  refine HT.out.mono ?_
  rintro e w2 ⟨rv, rfl, hr, hb⟩
  have HB := Lib.hid (HB0.out.trans (hb.mono HB0.out.size))
  obtain ⟨a, c, rfl⟩ := hr.len
  have hn2 : (nats [0, 1]).length = 2 := rfl
  rw [hn2]
  obtain ⟨N, hN⟩ : ∃ N, w2.heap.size = N := ⟨_, rfl⟩
  obtain ⟨w3, hw3⟩ : ∃ w3, w2.alloc (.cells #[.int .i64 0, .int .u32 1, .slice a 2 c, .int .i64 1] 26) = w3 := ⟨_, rfl⟩
  have ha : At w3 N #[.int .i64 0, .int .u32 1, .slice a 2 c, .int .i64 1] 26 := by
    rw [← hw3, ← hN]; exact At.new w2 _ _
  have q0 : w3.cell? ⟨N, 0, none⟩ = some (.int .i64 0) := ha.cell rfl
  have q1 : w3.cell? ⟨N, 1, none⟩ = some (.int .u32 1) := ha.cell rfl
  have q2 : w3.cell? ⟨N, 2, none⟩ = some (.slice a 2 c) := ha.cell rfl
  have q3 : w3.cell? ⟨N, 3, none⟩ = some (.int .i64 1) := ha.cell rfl
  have hbw : Below w2.heap.size w2 w3 := by rw [← hw3]; exact (Below.refl _ w2).alloc (Nat.le_refl _) _
  have HB3 := Lib.hid (HB.out.trans (hbw.mono HB.out.size))
  clear hr hb hn2 ha hbw HT HB0 HB
  unfold fndV
  go_wp2_with fail
  go_ret
  exact ⟨rfl, HB3.out⟩
end Go.Proofs.YtmnblljenobofaaDoor
/- The walks of package serial's Row, Search, Like. -/
namespace Go.Proofs.YtmnblljenobofaaDoor.WPlain
end Go.Proofs.YtmnblljenobofaaDoor.WPlain
namespace Go.Proofs.YtmnblljenobofaaDoor.QPlain
end Go.Proofs.YtmnblljenobofaaDoor.QPlain
namespace Go.Proofs.YtmnblljenobofaaDoor.RPlain
end Go.Proofs.YtmnblljenobofaaDoor.RPlain
namespace Go.Proofs.YtmnblljenobofaaDoor
open Go.RowKit WPlain QPlain RPlain

/-- what Search finds -/
def srchF (h : List Ev) (B : Int) : Nat × Nat × List Nat × Nat := if srchE h B = 0 then searchG B.toNat (tableS h) (fun _ => 2 ^ (tableS h).length - 1) (chL (tableS h)) 0 else (0, 0, [], 0)
theorem srchE_zero {h : List Ev} {B : Int} (h0 : srchE h B = 0) : (checkS h).2 = 0 ∧ 0 ≤ B ∧ B ≤ 1000000 := by
  unfold srchE at h0
  by_cases h1 : (checkS h).2 = 0
  · rw [if_pos h1] at h0
    by_cases h2 : B < 0 ∨ 1000000 < B
    · rw [if_pos h2] at h0; cases h0
    · exact ⟨h1, by omega, by omega⟩
  · rw [if_neg h1] at h0; exact absurd h0 h1
set_option maxRecDepth 100000 in
set_option maxHeartbeats 4000000 in
theorem searchX_any (v : Value) (h : List Ev) (B : Int) (w : World) (hK : HasK w) (hv : Evs w v h) (hl : h.length ≤ 65536) :
    Calls Tryd.prog 6 #[v, .int .i64 B] w fun e w' => ∃ rv, e = .returned (.tuple #[fndV (srchF h B).1 (srchF h B).2.1 rv (srchF h B).2.2.2, .int .i64 ((srchE h B : Nat) : Int)]) ∧ RdX (fun k => k < w.heap.size) w' rv (nats (srchF h B).2.2.1) ∧ CapV rv ∧ Below w.heap.size w w' := by
  obtain ⟨w1, hw1⟩ : ∃ w1, w.alloc (.cells #[.int .i64 0, .int .u32 0, .slice none 0 0, .int .i64 0] 26) = w1 := ⟨_, rfl⟩
  have HB1 : Hid (Below w.heap.size w w1) := by
    rw [← hw1]
    exact (Below.refl _ w).alloc (Nat.le_refl _) _
  obtain ⟨N0, hN0⟩ : ∃ N0, w.heap.size = N0 := ⟨_, rfl⟩
  have HA1 : Hid (At w1 N0 (fnd 0 0 (.slice none 0 0) 0) 26) := by
    rw [← hw1, ← hN0]
    exact At.new w _ _
  have HK1 := Lib.hid (hK.later HB1.out (Nat.le_refl _))
  have HV1 := Lib.hid (hv.below HB1.out (Nat.le_refl _))
  have HAF := Lib.hid (afterOf_anyS v h B w1 HK1.out HV1.out hl)
  have HCH := Lib.hid (fun (w2 : World) (hb2 : Below w1.heap.size w1 w2) => choices_any v h w2 (HK1.out.later hb2 (Nat.le_refl _)) (HV1.out.below hb2 (Nat.le_refl _)) hl)
  have hN1 : N0 < w1.heap.size := HA1.out.lt
  have HBN : Hid (∀ w', Below w1.heap.size w1 w' → Below N0 w w') := fun w' hb => by
    have := HB1.out.trans (hb.mono HB1.out.size)
    rwa [hN0] at this
  clear hK
  unfold srchF
  by_cases h0 : srchE h B = 0
  · obtain ⟨hc0, hB0, hB1⟩ := srchE_zero h0
    obtain ⟨BN, rfl⟩ : ∃ BN : Nat, B = (BN : Int) := ⟨B.toNat, by omega⟩
    have h6 := table_six hc0
    simp only [hc0, if_true] at HCH
    rw [h0] at HAF ⊢
    simp only [if_true] at HAF ⊢
    rw [Int.toNat_natCast]
    have h64 := pow_le_64 h6
    have hpos : 0 < 2 ^ (tableS h).length := Nat.two_pow_pos _
    have HPL := Lib.hid (fun (a : Option Addr) (cc : Nat) (w : World) => placesS_any a (tableS h).length cc (by omega) w)
    have HLE := Lib.hid (show BN ≤ 1000000 by omega)
    have HC0 := Lib.hid hc0
    have HWL : Hid (2 ^ (tableS h).length - 1 < 2 ^ (tableS h).length) := by show _ < _; omega
    have HCL : Hid (∀ c ∈ chL (tableS h), c < 4294967296) := fun c hc => by have := (mem_chL.1 hc).1; omega
    have HCN : Hid ((chL (tableS h)).length ≤ 65536) := by have h1 := choices_count (tableS h); rw [choices_chL h6] at h1; show _ ≤ _; omega
    obtain ⟨x, hx⟩ : ∃ x, searchG BN (tableS h) (fun _ => 2 ^ (tableS h).length - 1) (chL (tableS h)) 0 = x := ⟨_, rfl⟩
    have HX := Lib.hid hx
    rw [hx]
    clear hx
    obtain ⟨hva, hvc, rfl⟩ : ∃ a c, v = .slice a h.length c := hv.len
    clear hc0 h0
    generalize 2 ^ (tableS h).length - 1 = pn at *
    go_enter Tryd.func6, Tryd.ntmps6
    go_wp2_with fail
    refine HAF.out.mono ?_
    rintro e w2 ⟨v2, rfl, hr2, hb2⟩
    have HR2 := Lib.hid hr2
    obtain ⟨va, vc, rfl⟩ := hr2.len
    have a1 := HA1.out.below hb2 hN1
    have HB2 := Lib.hid hb2
    have H1 := Lib.hid a1
    rw [u32s_len, afterS_len] at HR2 ⊢
    clear hr2 hb2 a1 HAF
    go_wp2_with fail
    refine (HCH.out w2 HB2.out).mono ?_
    rintro e w3 ⟨v3, rfl, hr3, hb3⟩
    have HR3 := Lib.hid hr3
    obtain ⟨ca, cc, rfl⟩ := hr3.len
    have a1 := H1.out.below hb3 H1.out.lt
    have HB3 := Lib.hid (HB2.out.trans (hb3.mono HB2.out.size))
    have HRA3 := Lib.hid (HR2.out.below hb3 (Nat.le_refl _))
    have H3 := Lib.hid a1
    rw [u32s_len] at HR3 ⊢
    clear hr3 hb3 a1 HCH H1 HB2 HR2
    go_wp2_with (go_at_call 16; refine (HPL.out _ _ _).mono ?_; rintro e w9 ⟨rfl, hw9⟩; rw [hw9]; clear hw9)
    obtain ⟨w4, hw4⟩ : ∃ w4, w3.alloc (.cells #[.slice hva h.length hvc, .slice va (tableS h).length vc, .int .u32 (pn : Int), .int .u32 0, .int .i64 (BN : Int), .int .i64 0] 50) = w4 := ⟨_, rfl⟩
    rw [hw4]
    have hat3 : At w4 w3.heap.size (srch (.slice hva h.length hvc) (.slice va (tableS h).length vc) pn 0 (BN : Int) 0) 50 := by
      rw [← hw4]
      exact At.new w3 _ _
    have hb34 : Below w3.heap.size w3 w4 := by
      rw [← hw4]
      exact (Below.refl _ w3).alloc (Nat.le_refl _) _
    have hrx : RdX (fun k => k = w3.heap.size) w4 (.slice ca (chL (tableS h)).length cc) (u32s (chL (tableS h))) := by
      have h1 := HR3.out
      rcases h1 with he | ⟨hpos, b', o', c', he, hcs⟩
      · exact .inl he
      · refine .inr ⟨hpos, b', o', c', he, fun hk => ?_, fun i u hu => cell_on hb34 (hcs i u hu)⟩
        have := World.block_lt_of_cell? (a := ⟨b', o' + 0, none⟩) w3 (hcs 0 _ (List.getElem?_eq_getElem hpos))
        simp only at this hk
        omega
    have HRUN := Lib.hid (run_any w3 w3.heap.size _ _ h pn BN ⟨HK1.out.later HB3.out (Nat.le_refl _), HV1.out.below HB3.out (Nat.le_refl _), hl, HC0.out, HRA3.out, Nat.le_refl _, HWL.out, HLE.out⟩ (.slice ca (chL (tableS h)).length cc) (chL (tableS h)) 0 w4 hb34 hat3 hrx HCL.out HCN.out)
    have hsz : N0 < w3.heap.size := H3.out.lt
    have HB34 := Lib.hid hb34
    have HN4 : Hid (N0 < w4.heap.size) := Nat.lt_of_lt_of_le hsz hb34.size
    clear hw4 hat3 hb34 hrx
    rw [HX.out] at HRUN
    refine HRUN.out.mono ?_
    rintro e w5 ⟨rv, rfl, hr5, hc5, ho5⟩
    have HB5 := Lib.hid (HB34.out.trans (ho5.below HB34.out.size (fun k _ hk => by omega)))
    have HR5 := Lib.hid hr5
    have HC5 := Lib.hid hc5
    obtain ⟨ra, rc, rfl⟩ := hr5.rd.len
    have a1 := H3.out.below HB5.out hsz
    have q0 : w5.cell? ⟨N0, 0, none⟩ = some (.int .i64 0) := a1.cell rfl
    have q1 : w5.cell? ⟨N0, 1, none⟩ = some (.int .u32 0) := a1.cell rfl
    have q2 : w5.cell? ⟨N0, 2, none⟩ = some (.slice none 0 0) := a1.cell rfl
    have q3 : w5.cell? ⟨N0, 3, none⟩ = some (.int .i64 0) := a1.cell rfl
    have f0 : w5.frozen? ⟨N0, 0, none⟩ = false := a1.free 0
    have f1 : w5.frozen? ⟨N0, 1, none⟩ = false := a1.free 1
    have f2 : w5.frozen? ⟨N0, 2, none⟩ = false := a1.free 2
    have f3 : w5.frozen? ⟨N0, 3, none⟩ = false := a1.free 3
    unfold fndV
    have A5 := Lib.hid a1
    clear hr5 hc5 ho5 HRUN a1
    generalize (nats x.2.2.1).length = rn at *
    go_wp2_with fail
    have HZ : Hid (At ((((w5.setCell ⟨N0, 0, none⟩ (.int .i64 (x.1 : Int))).setCell ⟨N0, 1, none⟩ (.int .u32 (x.2.1 : Int))).setCell ⟨N0, 2, none⟩ (.slice ra rn rc)).setCell ⟨N0, 3, none⟩ (.int .i64 (x.2.2.2 : Int))) N0 (fnd x.1 x.2.1 (.slice ra rn rc) x.2.2.2) 26) := fnd_set A5.out
    have HO := Lib.hid (fnd_only w5 N0 (.int .i64 (x.1 : Int)) (.int .u32 (x.2.1 : Int)) (.slice ra rn rc) (.int .i64 (x.2.2.2 : Int)))
    have HR6 : Hid (RdX (fun k => k < w.heap.size) ((((w5.setCell ⟨N0, 0, none⟩ (.int .i64 (x.1 : Int))).setCell ⟨N0, 1, none⟩ (.int .u32 (x.2.1 : Int))).setCell ⟨N0, 2, none⟩ (.slice ra rn rc)).setCell ⟨N0, 3, none⟩ (.int .i64 (x.2.2.2 : Int))) (.slice ra rn rc) (nats x.2.2.1)) := (HR5.out.only HO.out (fun k hk => by rw [hk]; exact HN4.out)).less (fun k hk => by have := HN4.out; omega)
    generalize (((w5.setCell ⟨N0, 0, none⟩ (.int .i64 (x.1 : Int))).setCell ⟨N0, 1, none⟩ (.int .u32 (x.2.1 : Int))).setCell ⟨N0, 2, none⟩ (.slice ra rn rc)).setCell ⟨N0, 3, none⟩ (.int .i64 (x.2.2.2 : Int)) = w6 at *
    clear q0 q1 q2 q3 f0 f1 f2 f3
    have q0 : w6.cell? ⟨N0, 0, none⟩ = some (.int .i64 (x.1 : Int)) := HZ.out.cell rfl
    have q1 : w6.cell? ⟨N0, 1, none⟩ = some (.int .u32 (x.2.1 : Int)) := HZ.out.cell rfl
    have q2 : w6.cell? ⟨N0, 2, none⟩ = some (.slice ra rn rc) := HZ.out.cell rfl
    have q3 : w6.cell? ⟨N0, 3, none⟩ = some (.int .i64 (x.2.2.2 : Int)) := HZ.out.cell rfl
    have HBF : Hid (Below N0 w w6) := (HBN.out _ (HB3.out.trans (HB5.out.mono HB3.out.size))).trans (HO.out.below (by have := HB5.out.size; omega) (fun k _ hk => by omega))
    refine bodyPost_ret (v := .tuple #[fndV x.1 x.2.1 (.slice ra rn rc) x.2.2.2, .int .i64 ((0 : Nat) : Int)]) (by simp [results, Tryd.results6, go_sem, q0, q1, q2, q3]; rfl) rfl ?_
    exact ⟨_, rfl, HR6.out, HC5.out, by rw [hN0]; exact HBF.out⟩
  · simp only [if_neg h0] at HAF ⊢
    obtain ⟨er, her⟩ : ∃ er, srchE h B = er := ⟨_, rfl⟩
    rw [her] at h0 HAF ⊢
    have te : ((er : Int) != 0) = true := by simp; omega
    clear her h0 HCH
    go_enter Tryd.func6, Tryd.ntmps6
    go_wp2_with fail
    refine HAF.out.mono ?_
    rintro e w2 ⟨v2, rfl, hr2, hb2⟩
    have HR2 := Lib.hid hr2
    obtain ⟨va, vc, rfl⟩ := hr2.len
    have a1 := HA1.out.below hb2 hN1
    have HB2 := Lib.hid hb2
    have H1 := Lib.hid a1
    have q0 : w2.cell? ⟨N0, 0, none⟩ = some (.int .i64 0) := a1.cell rfl
    have q1 : w2.cell? ⟨N0, 1, none⟩ = some (.int .u32 0) := a1.cell rfl
    have q2 : w2.cell? ⟨N0, 2, none⟩ = some (.slice none 0 0) := a1.cell rfl
    have q3 : w2.cell? ⟨N0, 3, none⟩ = some (.int .i64 0) := a1.cell rfl
    have f0 : w2.frozen? ⟨N0, 0, none⟩ = false := a1.free 0
    have f1 : w2.frozen? ⟨N0, 1, none⟩ = false := a1.free 1
    have f2 : w2.frozen? ⟨N0, 2, none⟩ = false := a1.free 2
    have f3 : w2.frozen? ⟨N0, 3, none⟩ = false := a1.free 3
    clear hr2 hb2 a1 HAF
    go_wp2_with fail
    have HZ : Hid (At ((((w2.setCell ⟨N0, 0, none⟩ (.int .i64 0)).setCell ⟨N0, 1, none⟩ (.int .u32 0)).setCell ⟨N0, 2, none⟩ (.slice none 0 0)).setCell ⟨N0, 3, none⟩ (.int .i64 0)) N0 (fnd 0 0 (.slice none 0 0) 0) 26) := fnd_set (v' := 0) (c' := 0) (s' := 0) H1.out
    have HO := Lib.hid (fnd_only w2 N0 (.int .i64 0) (.int .u32 0) (.slice none 0 0) (.int .i64 0))
    generalize (((w2.setCell ⟨N0, 0, none⟩ (.int .i64 0)).setCell ⟨N0, 1, none⟩ (.int .u32 0)).setCell ⟨N0, 2, none⟩ (.slice none 0 0)).setCell ⟨N0, 3, none⟩ (.int .i64 0) = w3 at *
    clear q0 q1 q2 q3 f0 f1 f2 f3
    have q0 : w3.cell? ⟨N0, 0, none⟩ = some (.int .i64 0) := HZ.out.cell rfl
    have q1 : w3.cell? ⟨N0, 1, none⟩ = some (.int .u32 0) := HZ.out.cell rfl
    have q2 : w3.cell? ⟨N0, 2, none⟩ = some (.slice none 0 0) := HZ.out.cell rfl
    have q3 : w3.cell? ⟨N0, 3, none⟩ = some (.int .i64 0) := HZ.out.cell rfl
    have HBF : Hid (Below N0 w w3) := (HBN.out _ HB2.out).trans (HO.out.below (by have := HB2.out.size; omega) (fun k _ hk => by omega))
    refine bodyPost_ret (v := .tuple #[fndV 0 0 (.slice none 0 0) 0, .int .i64 (er : Int)]) (by simp [results, Tryd.results6, go_sem, q0, q1, q2, q3]; rfl) rfl ?_
    exact ⟨_, rfl, .inl ⟨rfl, _, _, rfl⟩, capV_nil, by rw [hN0]; exact HBF.out⟩
theorem searchS_any (v : Value) (h : List Ev) (B : Int) (w : World) (hK : HasK w) (hv : Evs w v h) (hl : h.length ≤ 65536) :
    Calls Tryd.prog 6 #[v, .int .i64 B] w fun e w' => ∃ rv, e = .returned (.tuple #[fndV (srchF h B).1 (srchF h B).2.1 rv (srchF h B).2.2.2, .int .i64 ((srchE h B : Nat) : Int)]) ∧ Rd w' rv (nats (srchF h B).2.2.1) ∧ CapV rv ∧ Below w.heap.size w w' :=
  (searchX_any v h B w hK hv hl).mono fun _ _ ⟨rv, he, hr, hc, hb⟩ => ⟨rv, he, hr.rd, hc, hb⟩
end Go.Proofs.YtmnblljenobofaaDoor
/- Plain words: what the law of parts asks of what is found. -/
namespace Go.Proofs.YtmnblljenobofaaDoor.WPlain
end Go.Proofs.YtmnblljenobofaaDoor.WPlain
namespace Go.Proofs.YtmnblljenobofaaDoor.QPlain
end Go.Proofs.YtmnblljenobofaaDoor.QPlain
namespace Go.Proofs.YtmnblljenobofaaDoor.RPlain
open WPlain QPlain

/-- what is found of a search that found -/
theorem found_facts {h : List Ev} {B : Nat} {x : Nat × Nat × List Nat × Nat} (hx : searchG B (tableS h) (fun _ => 2 ^ (tableS h).length - 1) (chL (tableS h)) 0 = x) (h1 : x.1 = 0) :
    x.2.1 ∈ chL (tableS h) ∧ x.2.1 < 2 ^ (tableS h).length ∧ Expl (tableS h) (2 ^ (tableS h).length - 1) x.2.1 x.2.2.1 := by
  obtain ⟨_, _, _, _, _, g, _⟩ := search_tells (B := B) (l := tableS h) (W := fun _ => 2 ^ (tableS h).length - 1) (self_table h) (chL (tableS h)) 0 (Nat.zero_le _)
  rw [hx] at g
  obtain ⟨g1, g2⟩ := g h1
  exact ⟨g1, (mem_chL.1 g1).1, g2⟩
end Go.Proofs.YtmnblljenobofaaDoor.RPlain
/- Plain words: what SerialRight asks of what is found. -/
namespace Go.Proofs.YtmnblljenobofaaDoor.WPlain
end Go.Proofs.YtmnblljenobofaaDoor.WPlain
namespace Go.Proofs.YtmnblljenobofaaDoor.QPlain
end Go.Proofs.YtmnblljenobofaaDoor.QPlain
namespace Go.Proofs.YtmnblljenobofaaDoor.RPlain
open WPlain QPlain

theorem expl_full {l : List Tx} {C : Nat} {R : List Nat} (h : Expl l (2 ^ l.length - 1) C R) : R.length = l.length := (allS_mem.1 (expl_all.1 h).1).1.trans (afterS_len l)
theorem expl_keeps {l : List Tx} {C : Nat} {R : List Nat} (h : Expl l (2 ^ l.length - 1) C R) : keepsS l (R.map fun x : Nat => (x : Int)) = true := by
  rw [keeps_nat]
  refine (List.pairwise_and_iff.2 ⟨h.nodup, h.keeps⟩).imp fun {b a} hab => ⟨fun he => hab.1 he.symm, hab.2⟩
theorem row_there {l : List Tx} {R : List Nat} (h : ∀ k ∈ R, k < l.length) : thereS l (R.map fun x : Nat => (x : Int)) = true := (thereS_iff _ _).2 fun x hx => by
  obtain ⟨k, hk, rfl⟩ := List.mem_map.1 hx
  have := h k hk
  omega
end Go.Proofs.YtmnblljenobofaaDoor.RPlain
/- The walks of slices.Index and Contains at uint32, and of the law's explained where no row explains. -/
namespace Go.Proofs.YtmnblljenobofaaDoor.WPlain
end Go.Proofs.YtmnblljenobofaaDoor.WPlain
namespace Go.Proofs.YtmnblljenobofaaDoor.QPlain
end Go.Proofs.YtmnblljenobofaaDoor.QPlain
namespace Go.Proofs.YtmnblljenobofaaDoor.RPlain
end Go.Proofs.YtmnblljenobofaaDoor.RPlain
namespace Go.Proofs.YtmnblljenobofaaDoor
open Go.RowKit WPlain QPlain RPlain

set_option maxRecDepth 100000 in
set_option maxHeartbeats 1000000 in
theorem indexU32_any (v : Value) (L : List Nat) (x : Nat) (w : World) (hv : Rd w v (u32s L)) (hl : L.length ≤ 65536) :
    Calls Tryd.prog 27 #[v, .int .u32 (x : Int)] w fun e w' => (∃ z : Int, e = .returned (.int .i64 z) ∧ decide (0 ≤ z) = L.contains x) ∧ w' = w := by
  have HV := Lib.hid hv
  obtain ⟨va, vc, rfl⟩ := hv.len
  rw [u32s_len] at HV ⊢
  clear hv
  go_enter Tryd.func27, Tryd.ntmps27
  go_wp2_with fail
  go_loopw [8] (fun y wr => ∃ k : Nat, k ≤ L.length ∧ y = .int .i64 k ∧ Hid ((L.take k).contains x = false) ∧ wr = w) (fun y _ => L.length - (intOf y).toNat)
  case atStart => exact ⟨0, by omega, rfl, rfl, rfl⟩
  case round =>
    obtain ⟨k, hk, rfl, HA, rfl⟩ := hrel
    by_cases hlt : k < L.length
    · have HT : Hid (L.take (k + 1) = L.take k ++ [L[k]]) := List.take_succ_eq_append_getElem hlt
      have HM : Hid (L[k] ∈ L) := List.getElem_mem hlt
      obtain ⟨b, o, c', he, hbl, hcs⟩ := HV.out.opened (by rw [u32s_len]; omega)
      simp only [Value.slice.injEq] at he
      obtain ⟨rfl, -, rfl⟩ := he
      have hck := hcs k _ (u32s_get hlt)
      clear hcs
      generalize L[k] = y at *
      by_cases hxy : x = y
      · have HA2 : Hid (L.contains x = true) := by unfold Hid; rw [List.contains_iff_mem, hxy]; exact HM.out
        have te : ((x : Int) == (y : Int)) = true := by rw [hxy]; simp
        clear hxy HT HM HA
        go_wp2_with fail
        go_ret
        exact ⟨⟨_, rfl, by rw [HA2.out]; exact decide_eq_true (by omega)⟩, rfl⟩
      · have HA2 : Hid ((L.take (k + 1)).contains x = false) := by
          unfold Hid
          rw [HT.out, ← Bool.not_eq_true, List.contains_iff_mem, List.mem_append, List.mem_singleton]
          rintro (h | h)
          · have := HA.out
            rw [← Bool.not_eq_true, List.contains_iff_mem] at this
            exact this h
          · exact hxy h
        have te : ((x : Int) == (y : Int)) = false := by rw [beq_eq_false_iff_ne]; omega
        clear hxy HT HM HA
        go_wp2_with fail
        go_roundw
        case rel => exact ⟨k + 1, by omega, by go_num, HA2, trivial⟩
        case measure => simp [intOf]; omega
    · obtain rfl : k = L.length := by omega
      have HA2 : Hid (L.contains x = false) := by have := HA.out; rwa [List.take_length] at this
      clear HA
      go_wp2_with fail
      go_ret
      exact ⟨⟨_, rfl, by rw [HA2.out]; rfl⟩, rfl⟩
theorem containsU32_any (v : Value) (L : List Nat) (x : Nat) (w : World) (hv : Rd w v (u32s L)) (hl : L.length ≤ 65536) :
    Calls Tryd.prog 10 #[v, .int .u32 (x : Int)] w fun e w' => e = .returned (.bool (L.contains x)) ∧ w' = w := by
  have HI := Lib.hid (indexU32_any v L x w hv hl)
  obtain ⟨va, vc, rfl⟩ := hv.len
  clear hv hl
  go_enter Tryd.func10, Tryd.ntmps10
  go_wp2_with fail
  refine HI.out.mono ?_
  rintro e w1 ⟨⟨z, rfl, hz⟩, rfl⟩
  go_wp2
  all_goals go_ret
  all_goals exact ⟨ret_bool (by first | exact hz | simp), rfl⟩
end Go.Proofs.YtmnblljenobofaaDoor
