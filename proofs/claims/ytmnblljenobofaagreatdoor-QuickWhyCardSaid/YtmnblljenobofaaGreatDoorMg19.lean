/- Merged: GphL, GphM, GphN. -/
import Derived.Test.YtmnblljenobofaaGreatDoorMg18
import Derived.Test.YtmnblljenobofaaGreatDoorMg17
import Derived.Test.YtmnblljenobofaaGreatDoorMg16
import Derived.Test.YtmnblljenobofaaGreatDoorMg12
import Derived.Deep.QuietTactic
import Derived.BigQuiet
/- The walk of package graph's Build's third closure: what a read asks for. (Written by gen_gphL.py.) -/
namespace Go.Proofs.YtmnblljenobofaaGreatDoor.WPlain
end Go.Proofs.YtmnblljenobofaaGreatDoor.WPlain
namespace Go.Proofs.YtmnblljenobofaaGreatDoor.QPlain
end Go.Proofs.YtmnblljenobofaaGreatDoor.QPlain
namespace Go.Proofs.YtmnblljenobofaaGreatDoor.RPlain
end Go.Proofs.YtmnblljenobofaaGreatDoor.RPlain
namespace Go.Proofs.YtmnblljenobofaaGreatDoor.RPlain
open WPlain QPlain

theorem edges_write {l : List Tx} {c : Nat} {row : List Nat} {t n : Nat} {o : Rwo} (ho : (opsAt l t)[n]? = some o) (hw : o.w = true) : edgesE l c row t n = [] := by
  unfold edgesE
  rw [ho]
  dsimp only
  rw [if_pos (.inl hw)]
theorem edges_own {l : List Tx} {c : Nat} {row : List Nat} {t n : Nat} {o : Rwo} (ho : (opsAt l t)[n]? = some o) (hs : srcS l t n = (t : Int)) : edgesE l c row t n = [] := by
  unfold edgesE
  rw [ho]
  dsimp only
  rw [if_pos (.inr hs)]
theorem edges_read {l : List Tx} {c : Nat} {row : List Nat} {t n : Nat} {o : Rwo} (ho : (opsAt l t)[n]? = some o) (hw : o.w = false) (hs : srcS l t n ≠ (t : Int)) : edgesE l c row t n = readE l c row t (srcS l t n) o.v := by
  unfold edgesE
  rw [ho]
  dsimp only
  rw [if_neg (by rw [hw]; simp [hs])]
end Go.Proofs.YtmnblljenobofaaGreatDoor.RPlain
namespace Go.Proofs.YtmnblljenobofaaGreatDoor
open Go.RowKit WPlain QPlain RPlain

/-- what stands from read to read: the graph, and the boxes -/
structure BldJ (l : List Tx) (cm : Nat) (rn : List Nat) (M PA PR V PP PH n : Nat) (ra : Option Addr) (rc : Nat) (cs : Array Value) (t i : Nat) (w : World) : Prop where
  gr : GrJ M PA PR n ra rc (grA l cm rn t i) w
  view : At w V cs 90
  put : At w PP #[.func (.func 60) #[] #[.pointer (some ⟨PA, 0, none⟩)]] 93
  ahd : At w PH #[.func (.func 62) #[] #[.pointer (some ⟨PR, 0, none⟩)]] 95
theorem bldJ (l : List Tx) (cm : Nat) (rn : List Nat) (M PA PR V PP PH n : Nat) (ra : Option Addr) (rc : Nat) (cs : Array Value) : Reads l (BldJ l cm rn M PA PR V PP PH n ra rc cs) :=
  ⟨fun t i w w' h hb => ⟨h.gr.below hb, h.view.below hb h.view.lt, h.put.below hb h.put.lt, h.ahd.below hb h.ahd.lt⟩,
   fun t i w o h ho hw => ⟨by rw [grA_next, edges_write ho hw]; exact h.gr, h.view, h.put, h.ahd⟩,
   fun t w h => ⟨by rw [grA_row]; exact h.gr, h.view, h.put, h.ahd⟩⟩
theorem Only.drawn {s : Nat → Prop} {w w' : World} (h : Only s w.drew w') : Only s w w' := (Only.refl s w).drew.trans h (fun _ _ hs => hs)
set_option maxRecDepth 100000 in
set_option maxHeartbeats 4000000 in
theorem readD_walk (ta sa : Option Addr) (ln tc sn sc cm : Nat) (l : List Tx) (hln : l.length = ln) (rn : List Nat) (hw : Whole l rn) (hread : readS l cm = true) (ra : Option Addr) (rc M PA PR V PP PH : Nat) (hn1 : PA ≠ M) (hn2 : PR ≠ M) (hn3 : V ≠ M) (hn4 : PP ≠ M) (hn5 : PH ≠ M) (hf : Fine l) (hcm : cm < 4294967296)
    (wt : World) (hv : Txs wt (.slice ta ln tc) l) (hr : Rd wt (.slice ra ln rc) (ints (rn.map (fun x : Nat => (x : Int))))) (hMt : wt.heap.size ≤ M)
    (t n : Nat) (o : Rwo) (w : World) (hB : Below wt.heap.size wt w) (hM : M < w.heap.size) (hj : BldJ l cm rn M PA PR V PP PH ln ra rc #[.slice ta ln tc, .slice sa sn sc, .int .u32 (cm : Int)] t n w) (ho : (opsAt l t)[n]? = some o) (how : o.w = false) :
    Calls Tryz.prog 65 #[.int .i64 (t : Int), .int .i64 (n : Int), .int .i64 (srcS l t n), .pointer (some ⟨V, 0, none⟩), .pointer (some ⟨PP, 0, none⟩), .pointer (some ⟨PH, 0, none⟩)] w fun e w' =>
      (∃ v, e = .returned v) ∧ BldJ l cm rn M PA PR V PP PH ln ra rc #[.slice ta ln tc, .slice sa sn sc, .int .u32 (cm : Int)] t (n + 1) w' ∧ Only (fun b => b = M) w w' := by
  have hsrc := read_src hread ho how
  have hgn := grA_next l cm rn t n
  have eo := edges_own (l := l) (c := cm) (row := rn) (t := t) (n := n) ho
  have er := edges_read (l := l) (c := cm) (row := rn) (t := t) (n := n) ho how
  have htl := opsAt_lt ho
  have ht : t < ln := by omega
  have hoe := opsAt_eq htl
  rw [hoe] at ho
  obtain ⟨hnl, hoe2⟩ := List.getElem?_eq_some_iff.1 ho
  obtain ⟨tb, tq, tcc, he⟩ := hv.opened (by omega)
  simp only [Value.slice.injEq] at he
  obtain ⟨rfl, -, -⟩ := he
  obtain ⟨u, x0, x1, x2, x3, x4, q⟩ := hv.get t htl
  obtain ⟨ua, uc, rfl, huc⟩ := q.len
  obtain ⟨ob, oo, rfl, hobl, c0, c1, c2⟩ := Opv.at q n hnl
  rw [hoe2] at c1
  have hlen := grA_len l cm rn t n
  rw [hln] at hlen
  have hfit := grA_fit (l := l) hf.six cm rn t n
  have HBO : Hid (∀ W, Only (fun b => b = M) w W → Below wt.heap.size wt W) := fun W hW => hB.trans (hW.below hB.size (fun k _ hk => by rw [hk]; exact hMt))
  obtain ⟨m, hm⟩ : ∃ m, l[t].o.length = m := ⟨_, rfl⟩
  rw [hm] at x4 hnl
  have HSC : Hid (∀ W, Only (fun b => b = M) w W → W.cell? ⟨V, 0, none⟩ = some (.slice (some ⟨tb, tq, none⟩) ln tc) ∧ W.cell? ⟨V, 1, none⟩ = some (.slice sa sn sc) ∧ W.cell? ⟨V, 2, none⟩ = some (.int .u32 (cm : Int)) ∧
      W.cell? ⟨PP, 0, none⟩ = some (.func (.func 60) #[] #[.pointer (some ⟨PA, 0, none⟩)]) ∧ W.cell? ⟨PH, 0, none⟩ = some (.func (.func 62) #[] #[.pointer (some ⟨PR, 0, none⟩)]) ∧
      W.cell? ⟨tb, tq + t * 5 + 4, none⟩ = some (.slice (some ⟨ob, oo, none⟩) m uc) ∧ W.cell? ⟨ob, oo + n * 3 + 1, none⟩ = some (.int .i64 o.v)) := fun W hW =>
    ⟨(hj.view.only hW hn3).cell rfl, (hj.view.only hW hn3).cell rfl, (hj.view.only hW hn3).cell rfl, (hj.put.only hW hn4).cell rfl, (hj.ahd.only hW hn5).cell rfl,
     ((HBO.out W hW).cell (p := ⟨tb, tq + t * 5 + 4, none⟩) (cell_lt x4)).trans x4, ((HBO.out W hW).cell (p := ⟨ob, oo + n * 3 + 1, none⟩) (cell_lt c1)).trans c1⟩
  have HBX : Hid (∀ W, Only (fun b => b = M) w W → ∀ A, GrJ M PA PR ln ra rc A W → grA l cm rn t (n + 1) = A → BldJ l cm rn M PA PR V PP PH ln ra rc #[.slice (some ⟨tb, tq, none⟩) ln tc, .slice sa sn sc, .int .u32 (cm : Int)] t (n + 1) W) := fun W hW A hA he =>
    ⟨by rw [he]; exact hA, hj.view.only hW hn3, hj.put.only hW hn4, hj.ahd.only hW hn5⟩
  have hnm : (n : Int) < (m : Int) := by omega
  have htln : (t : Int) < (ln : Int) := by omega
  have HGR := Lib.hid hj.gr
  rcases hsrc with hs | hs | ⟨j, hjl, hjt, hs⟩
  · have hg := hgn
    rw [eo hs] at hg
    rw [hs]
    have HG := Lib.hid hg
    have ts : ((t : Int) != (t : Int)) = false := by simp
    clear hg hgn eo er hs hj hv hr HSC x0 x1 x2 x3 x4 c0 c1 c2 q
    go_enter Tryz.func65, Tryz.ntmps65
    go_wp2
    go_end0
    exact ⟨⟨_, rfl⟩, HBX.out _ (Only.refl _ w) _ HGR.out HG.out, Only.refl _ w⟩
  · have hne : srcS l t n ≠ (t : Int) := by rw [hs]; omega
    have hg := hgn
    rw [er hne, hs] at hg
    rw [hs]
    have HG := Lib.hid hg
    have ts : (((-1) : Int) != (t : Int)) = true := by simp
    have HPR := Lib.hid (putFirst_walk (some ⟨tb, tq, none⟩) sa ln tc sn sc cm l hln rn hw ra rc M PA PR t o.v (grA l cm rn t n) hlen hfit ht hf hcm wt hv hr w.drew hB.drew hMt hM hn1 hn2 ⟨hj.gr.row, hj.gr.box, hj.gr.who⟩)
    obtain ⟨G, hG⟩ : ∃ G, List.foldl putGe (grA l cm rn t n) (readE l cm rn t (-1) o.v) = G := ⟨_, rfl⟩
    rw [hG] at HPR HG
    clear hg hgn eo er hs hj hv hr x0 x1 x2 x3 x4 c0 c1 c2 q hG hne
    obtain ⟨ov, hov⟩ : ∃ ov, o.v = ov := ⟨_, rfl⟩
    rw [hov] at HSC HPR
    clear hov
    go_enter Tryz.func65, Tryz.ntmps65
    go_upto_region 1 with fail
    first
    | go_must (go_region_held_law (fun w' => w'.cell? ⟨V, 0, none⟩ = some (.slice (some ⟨tb, tq, none⟩) ln tc) ∧ w'.cell? ⟨V, 1, none⟩ = some (.slice sa sn sc) ∧ w'.cell? ⟨V, 2, none⟩ = some (.int .u32 (cm : Int)) ∧
          w'.cell? ⟨PP, 0, none⟩ = some (.func (.func 60) #[] #[.pointer (some ⟨PA, 0, none⟩)]) ∧ w'.cell? ⟨PH, 0, none⟩ = some (.func (.func 62) #[] #[.pointer (some ⟨PR, 0, none⟩)]) ∧
          w'.cell? ⟨tb, tq + t * 5 + 4, none⟩ = some (.slice (some ⟨ob, oo, none⟩) m uc) ∧ w'.cell? ⟨ob, oo + n * 3 + 1, none⟩ = some (.int .i64 ov))
        (first | exact HSC.out _ ho5 | exact HSC.out _ (Only.refl _ w).drew)
        (first
          | (go_at_call 66; refine HPR.out.mono ?_; rintro e w5 ⟨⟨rv, rfl⟩, hg5, ho4⟩; have ho5 := Only.drawn ho4)))
    | fail
    have HO5 := Lib.hid ho5
    have HG5 := Lib.hid hg5
    clear ho4 ho5 hg5 HSC HPR
    go_wp2
    go_end0
    exact ⟨⟨_, rfl⟩, HBX.out _ HO5.out _ HG5.out HG.out, HO5.out⟩
  · have hne : srcS l t n ≠ (t : Int) := by rw [hs]; omega
    have hg := hgn
    rw [er hne, hs] at hg
    rw [hs]
    have HG := Lib.hid hg
    have ts : (((j : Int) : Int) != (t : Int)) = true := by simp; omega
    have HPR := Lib.hid (putOther_walk (some ⟨tb, tq, none⟩) sa ln tc sn sc cm l hln rn hw ra rc M PA PR t j o.v (grA l cm rn t n) hlen hfit ht (by omega) hjt hf hcm wt hv hr w.drew hB.drew hMt hM hn1 hn2 ⟨hj.gr.row, hj.gr.box, hj.gr.who⟩)
    obtain ⟨G, hG⟩ : ∃ G, List.foldl putGe (grA l cm rn t n) (readE l cm rn t (j : Int) o.v) = G := ⟨_, rfl⟩
    rw [hG] at HPR HG
    clear hg hgn eo er hs hj hv hr x0 x1 x2 x3 x4 c0 c1 c2 q hG hne
    obtain ⟨ov, hov⟩ : ∃ ov, o.v = ov := ⟨_, rfl⟩
    rw [hov] at HSC HPR
    clear hov
    go_enter Tryz.func65, Tryz.ntmps65
    go_upto_region 1 with fail
    first
    | go_must (go_region_held_law (fun w' => w'.cell? ⟨V, 0, none⟩ = some (.slice (some ⟨tb, tq, none⟩) ln tc) ∧ w'.cell? ⟨V, 1, none⟩ = some (.slice sa sn sc) ∧ w'.cell? ⟨V, 2, none⟩ = some (.int .u32 (cm : Int)) ∧
          w'.cell? ⟨PP, 0, none⟩ = some (.func (.func 60) #[] #[.pointer (some ⟨PA, 0, none⟩)]) ∧ w'.cell? ⟨PH, 0, none⟩ = some (.func (.func 62) #[] #[.pointer (some ⟨PR, 0, none⟩)]) ∧
          w'.cell? ⟨tb, tq + t * 5 + 4, none⟩ = some (.slice (some ⟨ob, oo, none⟩) m uc) ∧ w'.cell? ⟨ob, oo + n * 3 + 1, none⟩ = some (.int .i64 ov))
        (first | exact HSC.out _ ho5 | exact HSC.out _ (Only.refl _ w).drew)
        (first
          | (go_at_call 66; refine HPR.out.mono ?_; rintro e w5 ⟨⟨rv, rfl⟩, hg5, ho4⟩; have ho5 := Only.drawn ho4)))
    | fail
    have HO5 := Lib.hid ho5
    have HG5 := Lib.hid hg5
    clear ho4 ho5 hg5 HSC HPR
    go_wp2
    go_end0
    exact ⟨⟨_, rfl⟩, HBX.out _ HO5.out _ HG5.out HG.out, HO5.out⟩
end Go.Proofs.YtmnblljenobofaaGreatDoor
/- The walks of package graph's hasEachOnce, with its closure. -/
namespace Go.Proofs.YtmnblljenobofaaGreatDoor.WPlain
end Go.Proofs.YtmnblljenobofaaGreatDoor.WPlain
namespace Go.Proofs.YtmnblljenobofaaGreatDoor.QPlain
end Go.Proofs.YtmnblljenobofaaGreatDoor.QPlain
namespace Go.Proofs.YtmnblljenobofaaGreatDoor.RPlain
open WPlain QPlain

/-- has a row each place below n once, and no other? -/
def wholeS (n : Nat) (row : List Int) : Bool := decide (row.length = n) && (List.range n).all fun i => decide (row.count (i : Int) = 1)
theorem cast_nodup {L : List Nat} (h : L.Nodup) : (L.map fun x : Nat => (x : Int)).Nodup := List.pairwise_map.2 (h.imp (fun h hc => h (Int.ofNat.inj hc)))
theorem cover_perm {α : Type} [DecidableEq α] : ∀ (A B : List α), A.Nodup → (∀ x ∈ A, x ∈ B) → B.length ≤ A.length → A.Perm B := by
  intro A
  induction A with
  | nil =>
    intro B _ _ hl
    have : B = [] := List.length_eq_zero_iff.1 (by simpa using hl)
    subst this
    exact List.Perm.refl _
  | cons a A ih =>
    intro B hn hs hl
    obtain ⟨ha, hA⟩ := List.nodup_cons.1 hn
    have hm := hs a (List.mem_cons_self ..)
    have h1 := ih (B.erase a) hA (fun x hx => (List.mem_erase_of_ne (fun hc => ha (by rw [← hc]; exact hx))).2 (hs x (List.mem_cons_of_mem _ hx))) (by
      rw [List.length_erase_of_mem hm]
      simp only [List.length_cons] at hl
      omega)
    exact (h1.cons a).trans (List.perm_cons_erase hm).symm
theorem wholeS_perm {n : Nat} {row : List Int} : wholeS n row = true ↔ row.Perm ((List.range n).map fun x : Nat => (x : Int)) := by
  unfold wholeS
  rw [Bool.and_eq_true, decide_eq_true_eq, List.all_eq_true]
  have hnd : ((List.range n).map fun x : Nat => (x : Int)).Nodup := cast_nodup List.nodup_range
  constructor
  · rintro ⟨hlen, hall⟩
    have hsub : ∀ x ∈ (List.range n).map (fun x : Nat => (x : Int)), x ∈ row := fun x hx => by
      obtain ⟨i, hi, rfl⟩ := List.mem_map.1 hx
      have := hall i hi
      rw [decide_eq_true_eq] at this
      exact List.count_pos_iff.1 (by omega)
    exact (cover_perm _ _ hnd hsub (by rw [List.length_map, List.length_range, hlen]; exact Nat.le_refl _)).symm
  · intro hp
    refine ⟨by rw [hp.length_eq, List.length_map, List.length_range], fun i hi => ?_⟩
    rw [decide_eq_true_eq, hp.count_eq]
    exact Nat.le_antisymm (List.nodup_iff_count.1 hnd _) (List.count_pos_iff.2 (List.mem_map.2 ⟨i, hi, rfl⟩))
theorem whole_iff {l : List Tx} {row : List Int} : wholeS l.length row = true ↔ ∃ rn : List Nat, row = rn.map (fun x : Nat => (x : Int)) ∧ Whole l rn := by
  rw [wholeS_perm]
  constructor
  · intro hp
    have hm : ∀ x ∈ row, 0 ≤ x ∧ x < l.length := fun x hx => by
      obtain ⟨i, hi, rfl⟩ := List.mem_map.1 ((hp.mem_iff).1 hx)
      have := List.mem_range.1 hi
      omega
    have hrow : row = (row.map Int.toNat).map (fun x : Nat => (x : Int)) := by
      refine List.ext_getElem (by simp) fun i h2 h3 => ?_
      have := (hm row[i] (List.getElem_mem h2)).1
      simp
      omega
    refine ⟨row.map Int.toNat, hrow, ?_, fun k => ?_⟩
    · have h1 : row.Nodup := hp.nodup_iff.2 (cast_nodup List.nodup_range)
      rw [hrow] at h1
      exact (List.pairwise_map.1 h1).imp (fun h hc => h (by rw [hc]))
    · have h2 := hp.mem_iff (a := (k : Int))
      rw [List.mem_map] at h2 ⊢
      constructor
      · rintro ⟨x, hx, rfl⟩
        have := hm x hx
        omega
      · intro hk
        exact ⟨(k : Int), h2.2 ⟨k, List.mem_range.2 hk, rfl⟩, Int.toNat_natCast k⟩
  · rintro ⟨rn, rfl, hw⟩
    exact ((List.perm_ext_iff_of_nodup hw.nodup List.nodup_range).2 (fun a => by rw [hw.mem a, List.mem_range])).map _
/-- is a place none? -/
def outP (n : Nat) (x : Int) : Bool := decide (x < 0) || decide ((n : Int) ≤ x)
theorem whole_off {n : Nat} {row : List Int} (h : row.length ≠ n) : wholeS n row = false := by unfold wholeS; rw [decide_eq_false h, Bool.false_and]
theorem whole_out {n : Nat} {row : List Int} (h : row.any (outP n) = true) : wholeS n row = false := by
  cases hw : wholeS n row with
  | false => rfl
  | true =>
    exfalso
    obtain ⟨x, hx, ho⟩ := List.any_eq_true.1 h
    obtain ⟨i, hi, rfl⟩ := List.mem_map.1 ((wholeS_perm.1 hw).mem_iff.1 hx)
    have := List.mem_range.1 hi
    unfold outP at ho
    rw [Bool.or_eq_true, decide_eq_true_eq, decide_eq_true_eq] at ho
    omega
theorem whole_bits {n : Nat} {rn : List Nat} (hlen : rn.length = n) (hr : ∀ b ∈ rn, b < n) : (aheadN rn == 2 ^ n - 1) = wholeS n (rn.map fun x : Nat => (x : Int)) := by
  have h1 : aheadN rn = 2 ^ n - 1 ↔ ∀ i, i < n → i ∈ rn := by
    constructor
    · intro h i hi
      rw [← aheadN_bit, h, Nat.testBit_two_pow_sub_one]
      exact decide_eq_true hi
    · intro h
      refine Nat.eq_of_testBit_eq fun i => ?_
      rw [Nat.testBit_two_pow_sub_one]
      by_cases hi : i < n
      · rw [decide_eq_true hi, aheadN_bit]
        exact h i hi
      · rw [decide_eq_false hi]
        cases hb : (aheadN rn).testBit i with
        | false => rfl
        | true => exact absurd (hr i ((aheadN_bit _ _).1 hb)) hi
  have h2 : wholeS n (rn.map fun x : Nat => (x : Int)) = true ↔ ∀ i, i < n → i ∈ rn := by
    rw [wholeS_perm]
    constructor
    · intro hp i hi
      have := (hp.mem_iff (a := (i : Int))).2 (List.mem_map.2 ⟨i, List.mem_range.2 hi, rfl⟩)
      obtain ⟨x, hx, he⟩ := List.mem_map.1 this
      have : x = i := Int.ofNat.inj he
      rw [← this]; exact hx
    · intro h
      exact (cover_perm _ _ List.nodup_range (fun x hx => h x (List.mem_range.1 hx)) (by rw [List.length_range, hlen]; exact Nat.le_refl _)).symm.map _
  rw [Bool.eq_iff_iff, beq_iff_eq, h1, h2]
end Go.Proofs.YtmnblljenobofaaGreatDoor.RPlain
/- The walks of package graph's hasEachOnce, with its closure. -/
namespace Go.Proofs.YtmnblljenobofaaGreatDoor.WPlain
end Go.Proofs.YtmnblljenobofaaGreatDoor.WPlain
namespace Go.Proofs.YtmnblljenobofaaGreatDoor.QPlain
end Go.Proofs.YtmnblljenobofaaGreatDoor.QPlain
namespace Go.Proofs.YtmnblljenobofaaGreatDoor.RPlain
end Go.Proofs.YtmnblljenobofaaGreatDoor.RPlain
namespace Go.Proofs.YtmnblljenobofaaGreatDoor
open Go.RowKit WPlain QPlain RPlain

theorem outC_any (x : Int) (n N : Nat) (w : World) (hc : w.cell? ⟨N, 0, none⟩ = some (.int .i64 (n : Int))) :
    Calls Tryz.prog 92 #[.int .i64 x, .pointer (some ⟨N, 0, none⟩)] w fun e w' => e = .returned (.bool (outP n x)) ∧ w' = w := by
  have hN := cell_lt hc
  go_enter Tryz.func92, Tryz.ntmps92
  go_wp2
  all_goals go_ret
  all_goals exact ⟨by unfold outP; simp [*], rfl⟩
set_option maxRecDepth 100000 in
set_option maxHeartbeats 1000000 in
theorem indexX_any (v : Value) (xs : List Int) (n N : Nat) (w : World) (hv : Rd w v (ints xs)) (hl : xs.length ≤ 65536) (hc : w.cell? ⟨N, 0, none⟩ = some (.int .i64 (n : Int))) :
    Calls Tryz.prog 120 #[v, .func (.func 92) #[] #[.pointer (some ⟨N, 0, none⟩)]] w fun e w' => (∃ z : Int, e = .returned (.int .i64 z) ∧ decide (0 ≤ z) = xs.any (outP n)) ∧ w' = w := by
  have HV := Lib.hid hv
  have HCL := Lib.hid (fun (t : Int) => outC_any t n N w hc)
  obtain ⟨va, vc, rfl⟩ := hv.len
  rw [ints_len] at HV ⊢
  clear hv hc
  go_enter Tryz.func120, Tryz.ntmps120
  go_wp2_with fail
  go_loopw [8] (fun u wr => ∃ k : Nat, k ≤ xs.length ∧ u = .int .i64 k ∧ Hid ((xs.take k).any (outP n) = false) ∧ wr = w) (fun u _ => xs.length - (intOf u).toNat)
  case atStart => exact ⟨0, by omega, rfl, rfl, rfl⟩
  case round =>
    obtain ⟨k, hk, rfl, HA, rfl⟩ := hrel
    by_cases hlt : k < xs.length
    · have HT : Hid (xs.take (k + 1) = xs.take k ++ [xs[k]]) := List.take_succ_eq_append_getElem hlt
      have HM : Hid (xs[k] ∈ xs) := List.getElem_mem hlt
      have HC2 := Lib.hid (HCL.out xs[k])
      obtain ⟨b, o, c', he, hbl, hcs⟩ := HV.out.opened (by rw [ints_len]; omega)
      simp only [Value.slice.injEq] at he
      obtain ⟨rfl, -, rfl⟩ := he
      have hck := hcs k (.int .i64 xs[k]) (by unfold ints; rw [List.getElem?_map, List.getElem?_eq_getElem hlt]; rfl)
      clear hcs
      generalize xs[k] = y at *
      cases hkb : outP n y with
      | false =>
        rw [hkb] at HC2
        have HA2 : Hid ((xs.take (k + 1)).any (outP n) = false) := by
          unfold Hid
          rw [HT.out, List.any_append, HA.out]
          simp [hkb]
        clear hkb HT HM HA
        go_wp2_with (go_at_call 92; refine HC2.out.mono ?_; rintro e w3 ⟨rfl, rfl⟩)
        go_roundw
        case rel => exact ⟨k + 1, by omega, by go_num, HA2, trivial⟩
        case measure => simp [intOf]; omega
      | true =>
        rw [hkb] at HC2
        have HA2 : Hid (xs.any (outP n) = true) := List.any_eq_true.2 ⟨y, HM.out, hkb⟩
        clear hkb HT HM HA
        go_wp2_with (go_at_call 92; refine HC2.out.mono ?_; rintro e w3 ⟨rfl, rfl⟩)
        go_ret
        exact ⟨⟨_, rfl, by rw [HA2.out]; exact decide_eq_true (by omega)⟩, rfl⟩
    · obtain rfl : k = xs.length := by omega
      have HA2 : Hid (xs.any (outP n) = false) := by have := HA.out; rwa [List.take_length] at this
      clear HA
      go_wp2
      go_ret
      exact ⟨⟨_, rfl, by rw [HA2.out]; rfl⟩, rfl⟩
theorem containsX_any (v : Value) (xs : List Int) (n N : Nat) (w : World) (hv : Rd w v (ints xs)) (hl : xs.length ≤ 65536) (hc : w.cell? ⟨N, 0, none⟩ = some (.int .i64 (n : Int))) :
    Calls Tryz.prog 93 #[v, .func (.func 92) #[] #[.pointer (some ⟨N, 0, none⟩)]] w fun e w' => e = .returned (.bool (xs.any (outP n))) ∧ w' = w := by
  have HI := Lib.hid (indexX_any v xs n N w hv hl hc)
  clear hv hl hc
  go_enter Tryz.func93, Tryz.ntmps93
  go_wp2_with fail
  refine HI.out.mono ?_
  rintro e w1 ⟨⟨z, rfl, hz⟩, rfl⟩
  go_wp2
  all_goals go_ret
  all_goals exact ⟨ret_bool (by rw [← hz]), rfl⟩
theorem outs_nats {n : Nat} {row : List Int} (h : row.any (outP n) = false) : ∃ rn : List Nat, row = rn.map (fun x : Nat => (x : Int)) ∧ ∀ b ∈ rn, b < n := by
  have h1 : ∀ x ∈ row, 0 ≤ x ∧ x < n := fun x hx => by
    have := List.any_eq_false.1 h x hx
    unfold outP at this
    rw [Bool.or_eq_true, decide_eq_true_eq, decide_eq_true_eq] at this
    omega
  refine ⟨row.map Int.toNat, ?_, ?_⟩
  · refine List.ext_getElem (by simp) fun i h2 h3 => ?_
    have := (h1 row[i] (List.getElem_mem h2)).1
    simp
    omega
  · intro b hb
    obtain ⟨x, hx, rfl⟩ := List.mem_map.1 hb
    have := h1 x hx
    omega
set_option maxRecDepth 100000 in
set_option maxHeartbeats 2000000 in
theorem eachOnce_any (v : Value) (row : List Int) (n : Nat) (hn : n ≤ 6) (w : World) (hv : Rd w v (ints row)) (hl : row.length ≤ 65536) :
    Calls Tryz.prog 58 #[v, .int .i64 (n : Int)] w fun e w' => e = .returned (.bool (wholeS n row)) ∧ Below w.heap.size w w' := by
  have hba : Below w.heap.size w (w.alloc (.cells #[.int .i64 (n : Int)] 3)) := (Below.refl _ w).alloc (Nat.le_refl _) _
  have hc := (At.new w #[.int .i64 (n : Int)] 3).cell (i := 0) rfl
  have HC := Lib.hid (containsX_any v row n w.heap.size _ (hv.below hba (Nat.le_refl _)) hl hc)
  have HB := Lib.hid hba
  have HV := Lib.hid (hv.below hba (Nat.le_refl _))
  obtain ⟨va, vc, rfl⟩ := hv.len
  rw [ints_len] at HV HC ⊢
  clear hv hba
  by_cases hlen : row.length = n
  · have tl : ((row.length : Int) != (n : Int)) = false := by simp [hlen]
    have HLE : Hid (row.length = n) := hlen
    cases hany : row.any (outP n) with
    | true =>
      rw [hany] at HC
      rw [whole_out hany]
      clear hany hlen
      go_enter Tryz.func58, Tryz.ntmps58
      go_wp2_with fail
      refine HC.out.mono ?_
      rintro e w1 ⟨rfl, rfl⟩
      go_wp2
      go_ret
      exact ⟨rfl, HB.out⟩
    | false =>
      rw [hany] at HC
      obtain ⟨rn, rfl, hrn⟩ := outs_nats hany
      rw [List.length_map] at hlen
      have hwb := whole_bits hlen hrn
      have hpw : 2 ^ n < 4294967296 := Nat.pow_lt_pow_right (a := 2) (m := n) (n := 32) (by decide) (by omega)
      have hp1 : 1 ≤ 2 ^ n := Nat.two_pow_pos n
      have hsub : IntKind.u32.wrap (((2 ^ n : Nat) : Int) - 1) = ((2 ^ n - 1 : Nat) : Int) := by rw [IntWalk.u32_in _ (by omega)]; omega
      have HBN := bitG_all n (by omega)
      have HRN := Lib.hid hrn
      generalize wholeS n (rn.map fun x : Nat => (x : Int)) = res at *
      rw [List.length_map] at tl HLE HV HC hl ⊢
      have HLT := Lib.hid (aheadN_lt (row := rn) (n := n) hrn)
      obtain ⟨pw, hpe⟩ : ∃ pw, 2 ^ n = pw := ⟨_, rfl⟩
      rw [hpe] at hwb hpw hp1 hsub HBN HLT
      have HWB := Lib.hid hwb
      have HPE := Lib.hid hpe
      clear hany hlen hrn hwb hpe
      go_enter Tryz.func58, Tryz.ntmps58
      go_wp2_with fail
      refine HC.out.mono ?_
      rintro e w1 ⟨rfl, rfl⟩
      go_wp2_with fail
      clear HC
      generalize hw2 : w.alloc (.cells #[.int .i64 (n : Int)] 3) = w2 at *
      clear hw2
      go_loopw [6, 21] (fun q x wr => ∃ k : Nat, k ≤ rn.length ∧ x = .int .i64 k ∧ q = .int .u32 (aheadN (rn.take k) : Nat) ∧ wr = w2) (fun _ x _ => rn.length - (intOf x).toNat)
      case atStart => exact ⟨0, by omega, rfl, rfl, rfl⟩
      case round =>
        obtain ⟨k, hk, rfl, rfl, rfl⟩ := hrel
        by_cases hlt : k < rn.length
        · have HTK : Hid (aheadN (rn.take (k + 1)) = aheadN (rn.take k) ||| 2 ^ rn[k]) := by
            unfold Hid
            rw [List.take_succ_eq_append_getElem hlt, aheadN_snoc]
          have hrk := HRN.out rn[k] (List.getElem_mem hlt)
          have hA1 := pow_32 hn (aheadN_lt (row := rn.take k) (n := n) (fun p hp => HRN.out p (List.mem_of_mem_take hp)))
          have hA3 := two_32 hn hrk
          have hor := u32_or_nat _ _ hA1 hA3
          have HBK := bitG_all rn[k] (by omega)
          obtain ⟨b, o, c', he, hbl, hcs⟩ := HV.out.opened (by rw [ints_len, List.length_map]; omega)
          simp only [Value.slice.injEq] at he
          obtain ⟨rfl, -, rfl⟩ := he
          have hck := hcs k (.int .i64 (rn[k] : Int)) (by unfold ints; rw [List.getElem?_map, List.getElem?_map, List.getElem?_eq_getElem hlt]; rfl)
          clear hcs
          generalize aheadN (rn.take k) = ah at *
          generalize rn[k] = p at *
          obtain ⟨pk, hpk⟩ : ∃ pk, 2 ^ p = pk := ⟨_, rfl⟩
          rw [hpk] at HTK hA3 hor HBK
          clear hpk
          go_wp2_with (go_at_call 61; refine (HBK.out _).mono ?_; rintro e w3 ⟨rfl, rfl⟩)
          go_roundw
          case rel => exact ⟨k + 1, by omega, by go_num, by rw [HTK.out], by trivial⟩
          case measure => simp [intOf]; omega
        · obtain rfl : k = rn.length := by omega
          have hta : aheadN (rn.take rn.length) = aheadN rn := by rw [List.take_length]
          rw [hta]
          have hlt2 := HLT.out
          have hWB := HWB.out
          generalize aheadN rn = ar at *
          have HEQ : Hid (((ar : Int) == ((pw - 1 : Nat) : Int)) = res) := by
            unfold Hid
            rw [← hWB, Bool.eq_iff_iff, beq_iff_eq, beq_iff_eq]
            omega
          clear hWB HWB hta
          go_wp2_with (go_at_call 61; refine (HBN.out _).mono ?_; rintro e w3 ⟨rfl, rfl⟩)
          go_ret
          exact ⟨ret_bool (by rw [← HEQ.out]), HB.out⟩
  · have tl : ((row.length : Int) != (n : Int)) = true := by simp; omega
    rw [whole_off hlen]
    clear hlen HC
    go_enter Tryz.func58, Tryz.ntmps58
    go_wp2
    go_ret
    exact ⟨rfl, HB.out⟩
end Go.Proofs.YtmnblljenobofaaGreatDoor
