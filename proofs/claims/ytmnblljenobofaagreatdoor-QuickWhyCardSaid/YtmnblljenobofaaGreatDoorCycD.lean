/- The walk of package cycle's Least: the search whose ways lie in a queue. -/
import Derived.Test.YtmnblljenobofaaGreatDoorMg34
import Derived.Test.YtmnblljenobofaaGreatDoorMg2
import Derived.Deep.LoopGhost
namespace Go.Proofs.YtmnblljenobofaaGreatDoor.RPlain
end Go.Proofs.YtmnblljenobofaaGreatDoor.RPlain
namespace Go.Proofs.YtmnblljenobofaaGreatDoor.RPlain

/-- what Least tells -/
def leastE (A : List Nat) : Nat := if mayCy A = true then (if leastS A = [] then 7 else 0) else 1
def leastR (A : List Nat) : List Nat := if mayCy A = true then leastS A else []
theorem go_room {A r : List Nat} {k : Nat} (h1 : ∀ x ∈ r, x < A.length) (h2 : r.Nodup) (hk : k < A.length) (h : goB A r k = true) : r.length < A.length := by
  have hm : k ∉ r := by
    unfold goB at h
    cases r with
    | nil => simp
    | cons x s =>
      rw [List.isEmpty_cons, Bool.false_or, Bool.and_eq_true, Bool.not_eq_true', List.contains_eq_mem, decide_eq_false_iff_not] at h
      exact h.2
  have h3 := nodup_le (k :: r) (List.range A.length) (List.nodup_cons.2 ⟨hm, h2⟩) fun x hx => List.mem_range.2 (by
    rcases List.mem_cons.1 hx with rfl | hx
    · exact hk
    · exact h1 x hx)
  rw [List.length_range, List.length_cons] at h3
  omega
end Go.Proofs.YtmnblljenobofaaGreatDoor.RPlain
namespace Go.Proofs.YtmnblljenobofaaGreatDoor
open Go.RowKit RPlain

def wayC (row : List Nat) : List Value := (wayA row).toList
theorem wayC_len (row : List Nat) : (wayC row).length = 7 := rfl
theorem wayC_one (row : List Nat) : ∀ u ∈ wayC row, u.oneCell' = true := by
  intro u hu
  simp [wayC, wayA] at hu
  rcases hu with rfl | rfl | rfl | rfl | rfl | rfl | rfl <;> rfl
/-- what holds while a way's longer ones are put into the queue -/
structure InQ (w0 : World) (A r : List Nat) (Q : List (List Nat)) (N : Nat) (k : Nat) (z : Value) (w : World) : Prop where
  que : Que w w0.heap.size 7 z (Q ++ chK A r k).length ((Q ++ chK A r k).flatMap wayC)
  at_ : At w N (wayA r) 102
  far : z.ownBlock ≠ some N
  bel : Below w0.heap.size w0 w
theorem InQ.below {w0 : World} {A r : List Nat} {Q : List (List Nat)} {N k : Nat} {z : Value} {w w' : World} (h : InQ w0 A r Q N k z w) (hb : Below w.heap.size w w') : InQ w0 A r Q N k z w' :=
  ⟨h.que.below hb (Nat.le_refl _), h.at_.below hb h.at_.lt, h.far, h.bel.trans (hb.mono h.bel.size)⟩
theorem InQ.push {w0 : World} {A r : List Nat} {Q : List (List Nat)} {N k : Nat} {z z' : Value} {w w' : World} (h : InQ w0 A r Q N k z w) (hgo : goB A r k = true)
    (hq : Que w' w0.heap.size 7 z' ((Q ++ chK A r k).length + 1) ((Q ++ chK A r k).flatMap wayC ++ wayC (r ++ [k]))) (hg : w.grownBy w' z.ownBlock) (hl : Lies w z z') : InQ w0 A r Q N (k + 1) z' w' := by
  refine ⟨?_, h.at_.grown hg (fun e => h.far e.symm), ?_, h.bel.grown hg h.bel.size (fun b e => (h.que.lt b e).1)⟩
  · rw [chK_snoc, if_pos hgo, ← List.append_assoc, List.length_append, List.flatMap_append, List.flatMap_cons, List.flatMap_nil, List.append_nil]
    exact hq
  · rcases hl with e | hh
    · rw [e]; exact h.far
    · intro e
      have := hh N e
      have := h.at_.lt
      omega
theorem InQ.skip {w0 : World} {A r : List Nat} {Q : List (List Nat)} {N k : Nat} {z : Value} {w : World} (h : InQ w0 A r Q N k z w) (hgo : goB A r k = false) : InQ w0 A r Q N (k + 1) z w := by
  refine ⟨?_, h.at_, h.far, h.bel⟩
  rw [chK_snoc, if_neg (by rw [hgo]; decide)]
  exact h.que
theorem InQ.start {w0 : World} {A r : List Nat} {Q : List (List Nat)} {N : Nat} {z : Value} {w : World} (hq : Que w w0.heap.size 7 z Q.length (Q.flatMap wayC)) (ha : At w N (wayA r) 102) (hf : z.ownBlock ≠ some N) (hb : Below w0.heap.size w0 w) : InQ w0 A r Q N 0 z w := by
  have h0 : Q ++ chK A r 0 = Q := by simp [chK]
  exact ⟨by rw [h0]; exact hq, ha, hf, hb⟩
theorem way_cells {w : World} {N : Nat} {t : TypeId} {p0 p1 p2 p3 p4 p5 p6 : Int} (h : At w N #[.int .i64 p0, .int .i64 p1, .int .i64 p2, .int .i64 p3, .int .i64 p4, .int .i64 p5, .int .i64 p6] t) :
    w.cell? ⟨N, 0, none⟩ = some (.int .i64 p0) ∧ w.cell? ⟨N, 1, none⟩ = some (.int .i64 p1) ∧ w.cell? ⟨N, 2, none⟩ = some (.int .i64 p2) ∧ w.cell? ⟨N, 3, none⟩ = some (.int .i64 p3) ∧ w.cell? ⟨N, 4, none⟩ = some (.int .i64 p4) ∧ w.cell? ⟨N, 5, none⟩ = some (.int .i64 p5) ∧ w.cell? ⟨N, 6, none⟩ = some (.int .i64 p6) :=
  ⟨h.cell rfl, h.cell rfl, h.cell rfl, h.cell rfl, h.cell rfl, h.cell rfl, h.cell rfl⟩
theorem news_way {w : World} {N : Nat} {t : TypeId} {r : List Nat} (h : At w N (wayA r) t) : ∀ j u, (wayC r)[j]? = some u → w.cell? ((⟨N, 0, none⟩ : Addr).add j) = some u := fun j u hu => by
  have hadd : (⟨N, 0, none⟩ : Addr).add j = ⟨N, j, none⟩ := by unfold Addr.add; split <;> simp_all
  rw [hadd]
  refine h.cell ?_
  rw [← Array.getElem?_toList]
  exact hu
theorem rd_way {w : World} {N : Nat} {r : List Nat} (h : At w N (wayA r) 102) (h0 : 0 < r.length) (h6 : r.length ≤ 6) : Rd w (.slice (some ⟨N, 0, none⟩) r.length 6) (nats r) := by
  refine .inr ⟨by rw [nats_len]; exact h0, N, 0, 6, by rw [nats_len], fun i u hu => ?_⟩
  have hi : i < r.length := by have := (List.getElem?_eq_some_iff.1 hu).1; rwa [nats_len] at this
  rw [Nat.zero_add]
  refine h.cell ?_
  rw [wayA_get r i (by omega), ← hu, nats_get hi, getD_get hi]
theorem cloneN_any (a : Option Addr) (c : Nat) (L : List Nat) (w : World) (hv : Rd w (.slice a L.length c) (nats L)) (hl : L.length ≤ 65536) (h0 : 0 < L.length) :
    Calls Tryz.prog 69 #[.slice a L.length c] w fun e w' => ∃ v', e = .returned v' ∧ w'.ownsRow w.heap.size 3 1 v' L.length (nats L) ∧ Below w.heap.size w w' := by
  obtain ⟨b, o, c', he, hb, hc⟩ := hv.opened (by rw [nats_len]; exact h0)
  simp only [Value.slice.injEq] at he
  obtain ⟨rfl, -, rfl⟩ := he
  refine (Tryz.slices_Clone_int b o L.length c (L.map fun (x : Nat) => (x : Int)) w (by simp) (by omega) (fun j hj => ?_)).mono ?_
  · have hj' : j < L.length := by simpa using hj
    rw [hc j _ (nats_get hj'), List.getD_eq_getElem?_getD, List.getElem?_map, List.getElem?_eq_getElem hj']
    rfl
  · rintro e w' ⟨v', rfl, h1, -, hb⟩
    refine ⟨v', rfl, ?_, hb⟩
    rw [List.take_of_length_le (by simp)] at h1
    rw [nats_ints]
    exact h1
theorem infoWay : (Tryz.prog.info? 102).map (fun i => (i.zero, i.size, i.bytes)) = some (some (.agg #[.int .i64 0, .int .i64 0, .int .i64 0, .int .i64 0, .int .i64 0, .int .i64 0, .int .i64 0]), 7, 56) := by kernel_rfl
set_option maxRecDepth 100000 in
set_option maxHeartbeats 8000000 in
theorem leastC_walk (a : Option Addr) (c : Nat) (A : List Nat) (w : World) (hv : Rd w (.slice a A.length c) (u32s A)) (hA : ∀ x ∈ A, x < 4294967296) (hl : A.length ≤ 65536) :
    Calls Tryz.prog 32 #[.slice a A.length c] w fun e w' => ∃ v', e = .returned (.tuple #[v', .int .i64 ((leastE A : Nat) : Int)]) ∧ w'.ownsRow w.heap.size 3 1 v' (leastR A).length (nats (leastR A)) ∧ Below w.heap.size w w' := by
  have HMB := Lib.hid (mayBeCy_any _ A w hv hl)
  have hLE : leastE A = if mayCy A = true then (if leastS A = [] then 7 else 0) else 1 := rfl
  have hLR : leastR A = if mayCy A = true then leastS A else [] := rfl
  cases hm : mayCy A with
  | false =>
    rw [hm] at HMB hLE hLR
    rw [if_neg (by decide)] at hLE hLR
    rw [hLE, hLR]
    clear hv hLE hLR hm
    go_enter Tryz.func32, Tryz.ntmps32
    go_wp2_with (go_at_call 67; refine HMB.out.mono ?_; rintro e w3 ⟨rfl, hb3⟩; have HB3 := Lib.hid hb3; clear hb3)
    refine bodyPost_ret (v := .tuple #[.slice none 0 0, .int .i64 1]) (by simp [results, Tryz.results32, go_sem]) rfl ⟨_, rfl, World.ownsRow_nil _ _ _ _, HB3.out⟩
  | true =>
    rw [hm] at HMB hLE hLR
    rw [if_pos rfl] at hLE hLR
    have hal : A.length ≤ 6 := by
      unfold mayCy at hm
      rw [Bool.and_eq_true, decide_eq_true_eq] at hm
      exact hm.1
    have HV := Lib.hid hv
    have HA := Lib.hid hA
    have HLE := Lib.hid hLE
    have HLR := Lib.hid hLR
    have hsq := seq_len hal
    have HSQ : Hid (∃ z, z = (seqB A).length) := ⟨_, rfl⟩
    obtain ⟨i0, hi0, hz0, hz1, hz2⟩ := info_parts infoWay
    clear hv hA hLE hLR hm
    go_enter Tryz.func32, Tryz.ntmps32
    go_wp2_with (go_at_call 67; refine HMB.out.mono ?_; rintro e w3 ⟨rfl, hb3⟩; have HB3 := Lib.hid hb3; clear hb3)
    have HQ0 : Hid (Que (w3.alloc (.cells #[.int .i64 0, .int .i64 0, .int .i64 0, .int .i64 0, .int .i64 0, .int .i64 0, .int .i64 0] 102)) w.heap.size 7 (.slice (some ⟨w3.heap.size, 0, none⟩) 1 1) 1 ([[]].flatMap wayC)) := by
      refine Que.of_row (e := 102) ⟨rfl, .inr ⟨w3.heap.size, 1, #[.int .i64 0, .int .i64 0, .int .i64 0, .int .i64 0, .int .i64 0, .int .i64 0, .int .i64 0], rfl, HB3.out.size, At.new w3 _ _, Nat.le_refl _, by unfold maxLen; omega, rfl, rfl⟩⟩ (by decide)
    have HB0 : Hid (Below w.heap.size w (w3.alloc (.cells #[.int .i64 0, .int .i64 0, .int .i64 0, .int .i64 0, .int .i64 0, .int .i64 0, .int .i64 0] 102))) := HB3.out.alloc HB3.out.size _
    obtain ⟨S, hS⟩ : ∃ S, (seqB A).length = S := ⟨_, rfl⟩
    rw [hS] at hsq
    have HS := Lib.hid hS
    clear HB3 hS HSQ
    go_loopg [4] S (fun g q wr => Hid (∃ D Q, D.length + g = S ∧ QueB A D Q ∧ Que wr w.heap.size 7 q Q.length (Q.flatMap wayC) ∧ Below w.heap.size w wr))
    case atStart => exact ⟨[], [[]], by simp, QueB.start A, HQ0.out, HB0.out⟩
    case round =>
      obtain ⟨D, Q, hg, hq, hu, hb⟩ := hrel.out
      clear hrel HQ0 HB0
      have HG := Lib.hid hg
      have HB := Lib.hid hb
      clear hg hb
      cases Q with
      | nil =>
        have h0 := hq.none
        have HE := HLE.out
        have HR := HLR.out
        rw [if_pos h0] at HE
        rw [h0] at HR
        have HE := Lib.hid HE
        have HR := Lib.hid HR
        obtain ⟨_, b, o, cp, rfl, _⟩ := hu
        clear h0 hq
        rw [List.length_nil]
        go_wp2
        refine bodyPost_ret (v := .tuple #[.slice none 0 0, .int .i64 7]) (by simp [results, Tryz.results32, go_sem]) rfl ⟨_, by rw [HE.out]; rfl, by rw [HR.out]; exact World.ownsRow_nil _ _ _ _, HB.out⟩
      | cons r Q =>
        obtain ⟨hr1, hr2, hr3⟩ := hq.mem (List.mem_cons_self ..)
        have hsz := hq.size
        rw [HS.out, List.length_cons] at hsz
        have HF := Lib.hid (fun (h : backB A r = true) => hq.found (r := r) h)
        have HP := Lib.hid (fun (h : backB A r = false) => hq.pop (r := r) h)
        have HU := Lib.hid hu
        obtain ⟨h0, b, o, cp, rfl, h1, h2, h3, h4, h5, h6⟩ := hu
        rw [List.length_cons] at h3
        have hcell : ∀ j v, (wayA r)[j]? = some v → wr.cell? ⟨b, o + j, none⟩ = some v := fun j v hv => by
          refine h5 j v ?_
          have hj : j < 7 := (Array.getElem?_eq_some_iff.1 hv).1
          rw [List.flatMap_cons, List.getElem?_append_left (by rw [wayC_len]; exact hj)]
          unfold wayC
          rw [Array.getElem?_toList]
          exact hv
        have HLB := Lib.hid (fun (W : World) (hW : Below w.heap.size w W) => leadsBack_any _ A r W (HV.out.below hW (Nat.le_refl _)) HA.out (by omega) (by omega) hr2)
        have HMG := Lib.hid (fun (k : Nat) (hk : k < A.length) (W : World) (hW : Below w.heap.size w W) => mayGoTo_any _ A r k W (HV.out.below hW (Nat.le_refl _)) HA.out hl (by omega) hr2 (by omega))
        have HWI := Lib.hid (fun (k : Nat) (W : World) (h5 : r.length ≤ 5) => withC_any r k W h5)
        have HRM := Lib.hid (fun (k : Nat) (hk : k < A.length) (h : goB A r k = true) => go_room hr2 hr3 hk h)
        obtain ⟨p0, hp0⟩ : ∃ p, r.getD 0 0 = p := ⟨_, rfl⟩
        obtain ⟨p1, hp1⟩ : ∃ p, r.getD 1 0 = p := ⟨_, rfl⟩
        obtain ⟨p2, hp2⟩ : ∃ p, r.getD 2 0 = p := ⟨_, rfl⟩
        obtain ⟨p3, hp3⟩ : ∃ p, r.getD 3 0 = p := ⟨_, rfl⟩
        obtain ⟨p4, hp4⟩ : ∃ p, r.getD 4 0 = p := ⟨_, rfl⟩
        obtain ⟨p5, hp5⟩ : ∃ p, r.getD 5 0 = p := ⟨_, rfl⟩
        obtain ⟨rl, hrl⟩ : ∃ p, r.length = p := ⟨_, rfl⟩
        have hz : wayA r = #[.int .i64 (p0 : Int), .int .i64 (p1 : Int), .int .i64 (p2 : Int), .int .i64 (p3 : Int), .int .i64 (p4 : Int), .int .i64 (p5 : Int), .int .i64 (rl : Int)] := by unfold wayA; rw [hp0, hp1, hp2, hp3, hp4, hp5, hrl]
        have HZ := Lib.hid hz
        have HRL := Lib.hid hrl
        rw [hz] at hcell HLB HMG HWI
        rw [hrl] at hr1
        have e0 := hcell 0 _ rfl
        have e1 := hcell 1 _ rfl
        have e2 := hcell 2 _ rfl
        have e3 := hcell 3 _ rfl
        have e4 := hcell 4 _ rfl
        have e5 := hcell 5 _ rfl
        have e6 := hcell 6 _ rfl
        rw [Nat.add_zero] at e0
        clear hp0 hp1 hp2 hp3 hp4 hp5 hrl hz hcell h0 h1 h2 h4 h5 h6 hr2 hr3 hq
        have hQ1 : (0 : Int) < (Q.length : Int) + 1 := by omega
        rw [List.length_cons] at HU ⊢
        go_wp2_with (refine wpList_tail _ rfl (.tmp 18) 103 rfl 102 7 b o (Q.length + 1) cp Tryz.underlying103 (by kernel_rfl) (by omega) h3 rfl ?_; intro v2 hv2; have HV2 := Lib.hid hv2; clear hv2)
        have hal5 := (Below.refl wr.heap.size wr).alloc (Nat.le_refl _) (.cells #[.int .i64 (p0 : Int), .int .i64 (p1 : Int), .int .i64 (p2 : Int), .int .i64 (p3 : Int), .int .i64 (p4 : Int), .int .i64 (p5 : Int), .int .i64 (rl : Int)] 102)
        have hfar : v2.ownBlock ≠ some wr.heap.size := by
          have := (HU.out.lt b rfl).2
          rw [HV2.out]
          split
          all_goals simp only [Value.ownBlock, ne_eq, Option.some.injEq]
          all_goals omega
        have HIQ : Hid (InQ w A r Q wr.heap.size 0 v2 (wr.alloc (.cells #[.int .i64 (p0 : Int), .int .i64 (p1 : Int), .int .i64 (p2 : Int), .int .i64 (p3 : Int), .int .i64 (p4 : Int), .int .i64 (p5 : Int), .int .i64 (rl : Int)] 102))) := by
          refine InQ.start ?_ (by rw [HZ.out]; exact At.new wr _ _) hfar (HB.out.trans (hal5.mono HB.out.size))
          have h7 := HU.out.tail (ys := wayC r) (zs := Q.flatMap wayC) (wayC_len r)
          rw [HV2.out]
          exact h7.below hal5 (Nat.le_refl _)
        obtain ⟨N, hN⟩ : ∃ N, wr.heap.size = N := ⟨_, rfl⟩
        rw [hN] at HIQ ⊢
        clear hal5 hfar HV2 HU e0 e1 e2 e3 e4 e5 e6 h3 HB hN
        generalize wr.alloc (.cells #[.int .i64 (p0 : Int), .int .i64 (p1 : Int), .int .i64 (p2 : Int), .int .i64 (p3 : Int), .int .i64 (p4 : Int), .int .i64 (p5 : Int), .int .i64 (rl : Int)] 102) = w5 at *
        refine (HLB.out w5 HIQ.out.bel).mono ?_
        rintro e w6 ⟨rfl, hb6⟩
        have HIQ6 := Lib.hid (HIQ.out.below hb6)
        have hat6 := HIQ6.out.at_
        rw [HZ.out] at hat6
        have e6 := hat6.cell (i := 6) rfl
        clear hb6 HIQ HLB
        cases hbk : backB A r with
        | true =>
          have hsl := fun (W : World) => run_sliceArr (P := Tryz.prog) W 100 3 6 Tryz.underlying100 (by kernel_rfl) N 0 rl (by omega)
          have hrp : 0 < r.length := by
            cases r with
            | nil => cases hbk
            | cons x s => simp
          have HCL := Lib.hid (cloneN_any (some ⟨N, 0, none⟩) 6 r w6 (rd_way HIQ6.out.at_ hrp (by have := HRL.out; omega)) (by have := HRL.out; omega) hrp)
          have hst := HF.out hbk
          have HE : Hid (leastE A = 0) := by
            rw [Hid, HLE.out, hst, if_neg]
            intro h
            rw [h] at hrp
            simp at hrp
          have HR : Hid (leastR A = r) := HLR.out.trans hst
          rw [HRL.out] at HCL
          clear hst hbk hrp HF HP
          go_wp2_with (go_at_call 69; refine HCL.out.mono ?_; rintro e w7 ⟨v7, rfl, g1, g2⟩; have HG1 := Lib.hid g1; have HB7 := Lib.hid (HIQ6.out.bel.trans (g2.mono HIQ6.out.bel.size)); obtain ⟨v7a, v7c, rfl⟩ := row_slice g1; clear g1 g2)
          have HO : Hid (w7.ownsRow w.heap.size 3 1 (.slice v7a rl v7c) (leastR A).length (nats (leastR A))) := by
            rw [Hid, HR.out, HRL.out]
            exact own_less HG1.out HIQ6.out.bel.size
          refine bodyPost_ret (v := .tuple #[.slice v7a rl v7c, .int .i64 0]) (by simp [results, Tryz.results32, go_sem]) rfl ⟨_, by rw [HE.out]; rfl, HO.out, HB7.out⟩
        | false =>
          have HP2 := Lib.hid (HP.out hbk)
          have hchk : ∀ k, k ≤ A.length → (Q ++ chK A r k).length ≤ 326592 := fun k hk => by
            have h1 := HP2.out.size
            have h2 := chK_le A r hk
            simp only [List.length_append, List.length_singleton] at h1 ⊢
            have h3 := hsq
            rw [← HS.out] at h3
            omega
          have HCK := Lib.hid hchk
          have HG2 : Hid ((D ++ [r]).length + (gk - 1) = S ∧ gk - 1 < gk) := by
            have := HG.out
            rw [List.length_append, List.length_singleton]
            exact ⟨by omega, by omega⟩
          clear HF HP e6 hat6 hbk hchk HG
          go_wp2_with fail
          go_loopw [4, 30] (fun z x wr2 => ∃ k : Nat, k ≤ A.length ∧ x = .int .i64 k ∧ Hid (InQ w A r Q N k z wr2)) (fun _ x _ => A.length - (intOf x).toNat)
          case atStart => exact ⟨0, by omega, rfl, HIQ6⟩
          case round =>
            clear HIQ6
            obtain ⟨k, hk, rfl, HI⟩ := hrel
            by_cases hlt : k < A.length
            · have hat := HI.out.at_
              rw [HZ.out] at hat
              obtain ⟨e0, e1, e2, e3, e4, e5, e6⟩ := way_cells hat
              have HM := Lib.hid (HMG.out k hlt wr HI.out.bel)
              clear hat
              cases hgo : goB A r k with
              | false =>
                rw [hgo] at HM
                have HGO := Lib.hid hgo
                clear hgo
                go_wp2_with (go_at_call 70; refine HM.out.mono ?_; rintro e w7 ⟨rfl, hb7⟩; have HI7 := Lib.hid ((HI.out.below hb7).skip HGO.out); clear hb7)
                go_roundw
                case rel => exact ⟨k + 1, by omega, by go_num, HI7⟩
                case measure => simp [intOf]; omega
              | true =>
                rw [hgo] at HM
                have HGO := Lib.hid hgo
                have hrm := HRM.out k hlt hgo
                rw [HRL.out] at hrm
                have hck := HCK.out k hk
                clear hgo
                go_wp2_with (go_at_call 70; refine HM.out.mono ?_; rintro e w7 ⟨rfl, hb7⟩; have HI7 := Lib.hid (HI.out.below hb7); have hat7 := HI7.out.at_; rw [HZ.out] at hat7; obtain ⟨f0, f1, f2, f3, f4, f5, f6⟩ := way_cells hat7; clear hb7 hat7)
                have HW8 := Lib.hid (HWI.out k w7 (by have := HRL.out; omega))
                obtain ⟨q0, q1, q2, q3, q4, q5, q6, hqz⟩ : ∃ q0 q1 q2 q3 q4 q5 q6 : Int, wayA (r ++ [k]) = #[.int .i64 q0, .int .i64 q1, .int .i64 q2, .int .i64 q3, .int .i64 q4, .int .i64 q5, .int .i64 q6] := ⟨_, _, _, _, _, _, _, rfl⟩
                rw [hqz] at HW8
                have HQZ := Lib.hid hqz
                clear hqz f0 f1 f2 f3 f4 f5 f6 e0 e1 e2 e3 e4 e5 e6 hrm
                refine HW8.out.mono ?_
                rintro e w8 ⟨rfl, hb8⟩
                have hal8 := (Below.refl w8.heap.size w8).alloc (Nat.le_refl _) (.cells #[.int .i64 q0, .int .i64 q1, .int .i64 q2, .int .i64 q3, .int .i64 q4, .int .i64 q5, .int .i64 q6] 102)
                have HI8 := Lib.hid ((HI7.out.below hb8).below hal8)
                have HNW := Lib.hid (news_way (r := r ++ [k]) (t := 102) (by rw [HQZ.out]; exact At.new w8 _ _))
                have HBS := Lib.hid HI8.out.bel.size
                clear hb8 hal8 HW8
                generalize hqn : (Q ++ chK A r k).length = qn at *
                have HQN := Lib.hid hqn
                have HQU := Lib.hid HI8.out.que
                rw [hqn] at HQU
                clear hqn
                go_wp2_with (at_builtin; refine wpList_append_que _ rfl (.tmp 37) (.tmp 41) 103 rfl w.heap.size 102 i0 _ 7 56 Tryz.underlying103 hi0 hz0 hz1 hz2 rfl (by decide) u4 qn _ rfl HQU.out ⟨w8.heap.size, 0, none⟩ 1 1 (wayC (r ++ [k])) rfl rfl HNW.out (wayC_one _) (by decide) (by unfold maxLen; omega) (by omega) HBS.out ?_; intro v9 w9 hq9 hg9 hl9; have HI9 := Lib.hid (HI8.out.push HGO.out (by rw [HQN.out]; exact hq9) hg9 hl9); clear hq9 hg9 hl9)
                refine ⟨⟨k + 1, by omega, by go_num, HI9⟩, ?_⟩
                simp [intOf]; omega
            · obtain rfl : k = A.length := by omega
              have HQ9 := HI.out.que
              obtain ⟨_, b9, o9, c9, hu9, _⟩ := HQ9
              subst hu9
              have HB9 := Lib.hid HI.out.bel
              go_wp2_with fail
              go_roundg (gk - 1)
              case measure => exact HG2.out.2
              case rel => exact ⟨D ++ [r], _, HG2.out.1, HP2.out, HI.out.que, HB9.out⟩
/-- THE PROGRAM's Least -/
theorem leastC_any (v : Value) (A : List Nat) (w : World) (hv : Rd w v (u32s A)) (hA : ∀ x ∈ A, x < 4294967296) (hl : A.length ≤ 65536) :
    Calls Tryz.prog 32 #[v] w fun e w' => ∃ v', e = .returned (.tuple #[v', .int .i64 ((leastE A : Nat) : Int)]) ∧ w'.ownsRow w.heap.size 3 1 v' (leastR A).length (nats (leastR A)) ∧ Below w.heap.size w w' := by
  obtain ⟨a, c, rfl⟩ := hv.len
  rw [u32s_len] at hv ⊢
  exact leastC_walk a c A w hv hA hl
end Go.Proofs.YtmnblljenobofaaGreatDoor
