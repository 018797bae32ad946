/- Merged: WorM, WorN. -/
import Derived.Test.YtpjfhdljagkefaaGreatDoorMg18
/- The walks of package world's views and of the iterator that it makes: a range over an iterator within a range over an iterator. -/
namespace Go.Proofs.YtpjfhdljagkefaaGreatDoor.WPlain
end Go.Proofs.YtpjfhdljagkefaaGreatDoor.WPlain
namespace Go.Proofs.YtpjfhdljagkefaaGreatDoor.QPlain
end Go.Proofs.YtpjfhdljagkefaaGreatDoor.QPlain
namespace Go.Proofs.YtpjfhdljagkefaaGreatDoor.RPlain
end Go.Proofs.YtpjfhdljagkefaaGreatDoor.RPlain
namespace Go.Proofs.YtpjfhdljagkefaaGreatDoor
open Go.RowKit Go.Shelf WPlain QPlain RPlain

attribute [local go_sem] Oper.semAt_some

/-- a set and a row of it, as they are handed on -/
def EncP (p : Nat × List Nat) (vs : Array Value) (X : Nat → Prop) (W : World) : Prop := ∃ v, vs = #[.int .u32 (p.1 : Int), v] ∧ RdX X W v (nats p.2) ∧ SrcN v ∧ CapV v
theorem EncP.less {p : Nat × List Nat} {vs : Array Value} {X Y : Nat → Prop} {W : World} (h : EncP p vs X W) (hy : ∀ k, Y k → X k) : EncP p vs Y W := by
  obtain ⟨v, h1, h2, h3⟩ := h
  exact ⟨v, h1, h2.less hy, h3⟩
/-- the pairs of some sets -/
def pairsL (l : List Tx) (sets : List Nat) : List (Nat × List Nat) := sets.flatMap fun set => (rowsW l set).map fun r => (set, r)
theorem pairsL_snoc (l : List Tx) (pre : List Nat) (x : Nat) : pairsL l (pre ++ [x]) = pairsL l pre ++ (rowsW l x).map fun r => (x, r) := by
  unfold pairsL
  rw [List.flatMap_append]
  simp
theorem pairsL_pre {l : List Tx} {pre T : List Nat} (h : pre <+: T) : pairsL l pre <+: pairsL l T := by
  obtain ⟨q, rfl⟩ := h
  unfold pairsL
  rw [List.flatMap_append]
  exact List.prefix_append _ _
/-- what the iterator over the pairs has captured -/
structure VwC (hv cv : Value) (aa : Option Addr) (ac : Nat) (l : List Tx) (t c E Tb C : Nat) (X : Nat → Prop) (W : World) : Prop where
  box : At W E #[hv, .slice aa l.length ac, cv] 48
  aft : RdX X W (.slice aa l.length ac) (u32s (afterS l))
  tx : At W Tb #[.int .i64 (t : Int)] 3
  com : At W C #[.int .u32 (c : Int)] 23
  off : ¬ X E ∧ ¬ X Tb ∧ ¬ X C
section
variable {hv cv : Value} {aa : Option Addr} {ac : Nat} {l : List Tx} {t c E Tb C Y lp : Nat} {X X' : Nat → Prop} {W W' : World}
theorem VwC.kept (h : VwC hv cv aa ac l t c E Tb C X W) (hk : Kept X X' W W') : VwC hv cv aa ac l t c E Tb C X' W' := by
  obtain ⟨h1, h2, h4, h5, h6, h8, h9⟩ := h
  exact ⟨hk.at h1 h6, hk.rd h2, hk.at h4 h8, hk.at h5 h9, hk.not h1.lt h6, hk.not h4.lt h8, hk.not h5.lt h9⟩
theorem VwC.own {r : Option Nat} (h : VwC hv cv aa ac l t c E Tb C X W) (hg : W.grownBy W' r) (hr : ∀ k, r = some k → ∃ o : Obj, W.heap[k]? = some o ∧ o.isCells = false) : VwC hv cv aa ac l t c E Tb C X W' := by
  obtain ⟨h1, h2, h4, h5, h6⟩ := h
  exact ⟨at_own h1 hg hr, rd_own h2 hg hr, at_own h4 hg hr, at_own h5 hg hr, h6⟩
theorem VwC.more {Z : Nat → Prop} (h : VwC hv cv aa ac l t c E Tb C X W) (hy : ∀ k, k < W.heap.size → Z k → X k) : VwC hv cv aa ac l t c E Tb C Z W := by
  obtain ⟨h1, h2, h4, h5, h6, h8, h9⟩ := h
  exact ⟨h1, h2.more hy, h4, h5, fun h => h6 (hy _ h1.lt h), fun h => h8 (hy _ h4.lt h), fun h => h9 (hy _ h5.lt h)⟩
/-- .. and the function to hand them to -/
structure VwI (hv cv : Value) (aa : Option Addr) (ac : Nat) (l : List Tx) (t c E Tb C Y lp : Nat) (X : Nat → Prop) (W : World) : Prop where
  cap : VwC hv cv aa ac l t c E Tb C X W
  yl : At W Y #[.func (.yield lp) #[] #[]] 109
  off : ¬ X Y
theorem VwI.kept (h : VwI hv cv aa ac l t c E Tb C Y lp X W) (hk : Kept X X' W W') : VwI hv cv aa ac l t c E Tb C Y lp X' W' := ⟨h.cap.kept hk, hk.at h.yl h.off, hk.not h.yl.lt h.off⟩
theorem VwI.own {r : Option Nat} (h : VwI hv cv aa ac l t c E Tb C Y lp X W) (hg : W.grownBy W' r) (hr : ∀ k, r = some k → ∃ o : Obj, W.heap[k]? = some o ∧ o.isCells = false) : VwI hv cv aa ac l t c E Tb C Y lp X W' :=
  ⟨h.cap.own hg hr, at_own h.yl hg hr, h.off⟩
end
set_option maxRecDepth 100000 in
set_option maxHeartbeats 8000000 in
theorem viewsW1_gives (ha ca aa : Option Addr) (hn hc cn cc ac : Nat) (h : List Ev) (h0 : (checkS h).2 = 0) (t c E Tb C : Nat) (ht : t < (tableS h).length) (hcl : c < 2 ^ (tableS h).length) :
    GivesE EncP Tryz.prog 63 #[.pointer (some ⟨E, 0, none⟩), .pointer (some ⟨Tb, 0, none⟩), .pointer (some ⟨C, 0, none⟩)] (VwC (.slice ha hn hc) (.slice ca cn cc) aa ac (tableS h) t c E Tb C) [] (pairsW (tableS h) t c) (pairsW (tableS h) t c) := by
  intro lp J Jx X W hC hJ hJx htop hY hJ0
  have h6 := table_six h0
  have HPS : Hid (pairsW (tableS h) t c = pairsL (tableS h) (setsN (afterS (tableS h)) t c)) := pairs_sets h6 ht hcl
  have HSC : Hid (∀ x ∈ setsN (afterS (tableS h)) t c, x < 2 ^ (tableS h).length) := fun x hx => by
    have h1 := List.mem_range.1 (List.mem_filter.1 hx).1
    have h2 : amongN (afterS (tableS h)) t c ≤ c := Nat.le_trans (lessN_le _ _) (lessN_le _ _)
    omega
  have hb0 : Below W.heap.size W (W.alloc (.cells #[.func (.yield lp) #[] #[]] 109)) := (Below.refl _ W).alloc (Nat.le_refl _) _
  have hat0 := At.new W #[.func (.yield lp) #[] #[]] 109
  have hs0 : (W.alloc (.cells #[.func (.yield lp) #[] #[]] 109)).heap.size = W.heap.size + 1 := by simp
  have hCk := hC.kept (Kept.below X hb0)
  have HSETS := Lib.hid (fun (w1 : World) hr => setsW_any ha ca aa hn hc cn cc ac (tableS h) h6 t c ht hcl w1 hr)
  have HSG := Lib.hid (fun (U E' T' O : Nat) => setsW1_gives ha ca aa hn hc cn cc ac (tableS h) h6 t c U E' T' O ht hcl)
  have HROWS := Lib.hid (fun (x : Nat) (hx : x < 2 ^ (tableS h).length) (w1 : World) => rowsW_any ha ca aa hn hc cn cc ac (tableS h) h6 x hx w1)
  have HRG := Lib.hid (fun (x E' P : Nat) => rowsW1_gives ha ca aa hn hc cn cc ac h h0 x E' P)
  have c0 := hCk.box.cell (i := 0) rfl
  have c1 := hCk.box.cell (i := 1) rfl
  have c2 := hCk.box.cell (i := 2) rfl
  have c3 := hCk.tx.cell (i := 0) rfl
  have c4 := hCk.com.cell (i := 0) rfl
  have hset := HSETS.out _ hCk.aft.rd
  have hX0 : ∀ k, X k → k < W.heap.size := htop _ _ _ hJ0
  have HV0 : Hid (VwI (.slice ha hn hc) (.slice ca cn cc) aa ac (tableS h) t c E Tb C W.heap.size lp X (W.alloc (.cells #[.func (.yield lp) #[] #[]] 109))) := ⟨hCk, hat0, fun hk => by have := hX0 _ hk; omega⟩
  have HJ00 := Lib.hid (hJ.below hJ0 hb0)
  have HX0 := Lib.hid hX0
  have HJ := Lib.hid hJ
  have HJX := Lib.hid hJx
  have HY := Lib.hid hY
  have HTOP := Lib.hid htop
  have HB0 := Lib.hid hb0
  clear hC hJ hJx hY htop hJ0 hat0 hCk ht hcl h0 hX0 hb0
  refine (callsIn_wide (n := 6)).1 ?_
  refine callsIn_of_wp_marks Tryz.func63 rfl trivial ?_ rfl
  simp only [Tryz.ntmps63, List.size_toArray, List.length_cons, List.length_nil, Nat.reduceAdd, Nat.reduceSub, Array.replicate_succ, Array.replicate_zero, List.push_toArray, List.append_toArray, List.nil_append, List.cons_append]
  gi_wp2_with (refine ⟨trivial, ?_⟩; gi_at_call 64; refine (callsIn_wide.2 hset).mono ?_; rintro e w1 ⟨U, rfl, hb1, hst1⟩)
  generalize W.alloc (.cells #[.func (.yield lp) #[] #[]] 109) = W0 at *
  have hs1 := hb1.size
  rw [hs0] at hst1
  have HST := Lib.hid hst1
  have HJ1 := Lib.hid (HJ.out.below HJ00.out hb1)
  have HV1 := Lib.hid (HV0.out.kept (Kept.below X hb1))
  have HAF0 := Lib.hid HV0.out.cap.aft
  clear hst1 hset c0 c1 c2 c3 c4 HSETS HJ00 HV0
  refine range_e (Enc := EncS) (gf := 83) (lb := #[.pointer (some ⟨U, 0, none⟩), .pointer (some ⟨W.heap.size + 1, 0, none⟩), .pointer (some ⟨W.heap.size + 1 + 1, 0, none⟩), .pointer (some ⟨W.heap.size + 1 + 2, 0, none⟩)]) rfl (enters_of Tryz.func83 (by kernel_rfl) rfl)
    (fun r vs X W h => by rw [h]; rfl) (fun r vs X Y W h _ => h) (HSG.out U (W.heap.size + 1) (W.heap.size + 1 + 1) (W.heap.size + 1 + 2))
    (fun pre Z V => J (pairsL (tableS h) pre) Z V ∧ VwI (.slice ha hn hc) (.slice ca cn cc) aa ac (tableS h) t c E Tb C W.heap.size lp Z V) (fun cd _ Z V => cd = .ret ∧ ∃ q, q <+: pairsW (tableS h) t c ∧ Jx q Z V) X ?hyp ?top ?ownI ?ownX ?start ?round ?done ?stop
  case hyp =>
    intro W1 hb
    refine (((HST.out X (fun k hk => by have := HX0.out k hk; omega) HAF0.out).more (Y := addX X (w1.heap.size + 1)) (fun k hk hz => ?_))).kept (Kept.below _ hb)
    rcases hz with hz | rfl
    · exact hz
    · omega
  case top => exact fun pre Z V hz => HTOP.out _ _ _ hz.1
  case ownI =>
    rintro q Z V V' r ⟨g1, g2⟩ hg hr
    exact ⟨HJ.out _ _ _ _ _ g1 hg (fun x e => ⟨by have := (hr x e).1; omega, (hr x e).2⟩), g2.own hg (fun x e => (hr x e).2)⟩
  case ownX =>
    rintro cd q Z V V' r ⟨g0, p, g1, g2⟩ hg hr
    exact ⟨g0, p, g1, HJX.out _ _ _ _ _ g2 hg (fun x e => ⟨by have := (hr x e).1; omega, (hr x e).2⟩)⟩
  case start => exact ⟨HJ1.out, HV1.out⟩
  case round =>
    rintro l' pre x vs Z V hl1 hl2 hl3 ⟨g1, g2⟩ hTp rfl
    have hxm : x ∈ setsN (afterS (tableS h)) t c := hTp.subset (List.mem_append_right _ (List.mem_singleton.2 rfl))
    have hxc := HSC.out x hxm
    have HPT : Hid (pairsL (tableS h) pre ++ (rowsW (tableS h) x).map (fun r => (x, r)) <+: pairsW (tableS h) t c) := by
      unfold Hid
      rw [HPS.out, ← pairsL_snoc]
      exact pairsL_pre hTp
    have HPN := Lib.hid (pairsL_snoc (tableS h) pre x)
    have HG1 := Lib.hid g1
    have HG2 := Lib.hid g2
    have HZ := Lib.hid (HTOP.out _ _ _ g1)
    clear g1 g2 hTp hxm
    gi_wp2
    have hba : Below V.heap.size V (V.alloc (.cells #[.int .u32 (x : Int)] 23)) := (Below.refl _ V).alloc (Nat.le_refl _) _
    refine ⟨Kept.below Z hba, ?_⟩
    intro V2 hg hnc hlp
    have hsa : (V.alloc (.cells #[.int .u32 (x : Int)] 23)).heap.size = V.heap.size + 1 := by simp
    have hata := At.new V #[.int .u32 (x : Int)] 23
    have hro : ∀ k, some l' = some k → w1.heap.size ≤ k ∧ ∃ o : Obj, (V.alloc (.cells #[.int .u32 (x : Int)] 23)).heap[k]? = some o ∧ o.isCells = false := fun k e => by cases e; exact ⟨hl1, hnc⟩
    have HJ2 := Lib.hid (HJ.out _ _ _ _ _ (HJ.out.below HG1.out hba) hg (fun k e => ⟨by have := (hro k e).1; omega, (hro k e).2⟩))
    have HV2 := Lib.hid ((HG2.out.kept (Kept.below Z hba)).own hg (fun k e => (hro k e).2))
    have HA2 := Lib.hid (at_own hata hg (fun k e => (hro k e).2))
    have hv2s := hg.size
    have HNZ : Hid (¬ Z V.heap.size) := fun hk => by have := HZ.out _ hk; omega
    clear hata hro hg hnc HG1 HG2
    generalize V.alloc (.cells #[.int .u32 (x : Int)] 23) = Va at *
    have c0 := HV2.out.cap.box.cell (i := 0) rfl
    have c1 := HV2.out.cap.box.cell (i := 1) rfl
    have c2 := HV2.out.cap.box.cell (i := 2) rfl
    have c3 := HA2.out.cell (i := 0) rfl
    have hrows := HROWS.out x hxc V2
    gi_wp2_with (refine ⟨trivial, ?_⟩; gi_at_call 65; refine (CallsIn.inRound l' (callsIn_wide.2 hrows)).mono ?_; rintro e V3 ⟨P, rfl, hb3, hrc3⟩)
    have HRC3 := Lib.hid (hrc3 Z (fun k hk => by have := HZ.out k hk; omega) HV2.out.cap.aft)
    have HJ3 := Lib.hid (HJ.out.below HJ2.out hb3)
    have HV3 := Lib.hid (HV2.out.kept (Kept.below Z hb3))
    have HA3 := Lib.hid (HA2.out.below hb3 HA2.out.lt)
    have HK3 : Hid (Kept Z Z V2 V3) := Kept.below Z hb3
    have hl3' : ∃ r0, V3.heap[l']? = some (.loop r0) := by
      obtain ⟨r0, hr0⟩ := hlp
      exact ⟨r0, (hb3.block l' (Array.getElem?_eq_some_iff.1 hr0).1).trans hr0⟩
    have hb3s := hb3.size
    clear hrows hrc3 hb3 c0 c1 c2 c3 hlp HJ2 HV2 HA2
    refine range_ei (Enc := EncR) hl3' (gf := 86) (lb := #[.pointer (some ⟨V2.heap.size, 0, none⟩), .pointer (some ⟨P, 0, none⟩)]) rfl (enters_of Tryz.func86 (by kernel_rfl) rfl)
      (fun r vs X W h => by obtain ⟨v, rfl, _⟩ := h; rfl) (fun r vs X Y W h hy => h.less hy) (HRG.out x V2.heap.size P)
      (fun pre' Z' V' => J (pairsL (tableS h) pre ++ pre'.map (fun r => (x, r))) Z' V' ∧ VwI (.slice ha hn hc) (.slice ca cn cc) aa ac (tableS h) t c E Tb C W.heap.size lp Z' V' ∧ At V' V.heap.size #[.int .u32 (x : Int)] 23 ∧ ¬ Z' V.heap.size ∧ Kept Z Z' V2 V') (fun cd _ Z' V' => (cd = .ret ∧ ∃ q, q <+: pairsW (tableS h) t c ∧ Jx q Z' V') ∧ Kept Z Z' V2 V') Z ?hyp2 ?top2 ?ownI2 ?ownX2 ?start2 ?round2 ?done2 ?stop2
    case hyp2 =>
      intro W1 hb
      refine (HRC3.out.more (Y := addX Z V3.heap.size) (fun k hk hz => ?_)).kept (Kept.below _ hb)
      rcases hz with hz | rfl
      · exact hz
      · omega
    case top2 => exact fun pre Z V hz => HTOP.out _ _ _ hz.1
    case ownI2 =>
      rintro q Z V V' r ⟨g1, g2, g3, g4, g5⟩ hg hr
      exact ⟨HJ.out _ _ _ _ _ g1 hg (fun x e => ⟨by have := (hr x e).1; omega, (hr x e).2⟩), g2.own hg (fun x e => (hr x e).2), at_own g3 hg (fun x e => (hr x e).2), g4, g5.own hg (fun x e => by have := (hr x e).1; omega)⟩
    case ownX2 =>
      rintro cd q Z V V' r ⟨⟨g0, p, g1, g2⟩, g5⟩ hg hr
      exact ⟨⟨g0, p, g1, HJX.out _ _ _ _ _ g2 hg (fun x e => ⟨by have := (hr x e).1; omega, (hr x e).2⟩)⟩, g5.own hg (fun x e => by have := (hr x e).1; omega)⟩
    case start2 => exact ⟨by simpa using HJ3.out, HV3.out, HA3.out, HNZ.out, HK3.out⟩
    case round2 =>
      rintro l2 pre' r vs Z' V4 hm1 hm2 hm3 ⟨g1, g2, g3, g4, g5⟩ hTp ⟨v, rfl, hv1, hv2, hv3⟩
      obtain ⟨va, vc, rfl⟩ := hv1.rd.len
      gi_wp2
      refine ⟨Kept.refl _ _, ?_⟩
      intro V5 hg hnc hlp
      have hro : ∀ k, some l2 = some k → V3.heap.size ≤ k ∧ ∃ o : Obj, V4.heap[k]? = some o ∧ o.isCells = false := fun k e => by cases e; exact ⟨hm1, hnc⟩
      have g1' := HJ.out _ _ _ _ _ g1 hg (fun k e => ⟨by have := (hro k e).1; omega, (hro k e).2⟩)
      have g2' := g2.own hg (fun k e => (hro k e).2)
      have g3' := at_own g3 hg (fun k e => (hro k e).2)
      have g5' := g5.own hg (fun k e => by have := (hro k e).1; omega)
      have hv' := rd_own hv1 hg (fun k e => (hro k e).2)
      have hpp : (pairsL (tableS h) pre ++ pre'.map (fun r => (x, r))) ++ [(x, r)] <+: pairsW (tableS h) t c := by
        refine List.IsPrefix.trans ?_ HPT.out
        rw [List.append_assoc]
        refine (List.prefix_append_right_inj _).2 ?_
        have := hTp.map (fun r => (x, r))
        rwa [List.map_append] at this
      have hpe : (pairsL (tableS h) pre ++ pre'.map (fun r => (x, r))) ++ [(x, r)] = pairsL (tableS h) pre ++ (pre' ++ [r]).map (fun r => (x, r)) := by rw [List.map_append, List.append_assoc]; rfl
      obtain ⟨fn, tmps, assign, body, hy, hRr⟩ := HY.out _ (x, r) _ Z' V5 g1' hpp ⟨_, rfl, hv', hv2, hv3⟩
      have cY := g2'.yl.cell (i := 0) rfl
      have cX := g3'.cell (i := 0) rfl
      have hRw := fun m => round_in l2 (round_depth (m' := m) hRr)
      rw [hpe] at hRw
      have HPP := Lib.hid hpp
      rw [hpe] at HPP
      have HG2 := Lib.hid g2'
      have HG3 := Lib.hid g3'
      have HG5 := Lib.hid g5'
      clear g1 g2 g3 g5 g1' g2' g3' g5' hv' hpp hpe hRr hv1 hv2 hv3 hro hg hnc hlp
      gi_wp2
      refine (hRw _).mono ?_
      rintro e V6 (⟨rfl, Z2, gJ, gk⟩ | ⟨rfl, Z2, gJ, gk⟩)
      · gi_wp2
        exact ⟨Z2, ⟨gJ, HG2.out.kept gk, gk.at HG3.out g4, gk.not HG3.out.lt g4, HG5.out.trans gk⟩, gk⟩
      · gi_wp2
        exact ⟨Z2, ⟨⟨rfl, _, HPP.out, gJ⟩, HG5.out.trans gk⟩, gk⟩
    case done2 =>
      rintro Z' V4 ⟨g1, g2, g3, g4, g5⟩ _
      gi_wp2
      exact ⟨Z', ⟨by rw [HPN.out]; simpa using g1, g2⟩, g5⟩
    case stop2 =>
      rintro cd q Z' V4 hq ⟨⟨rfl, p, hp, g1⟩, g5⟩
      gi_wp2
      exact ⟨Z', ⟨rfl, p, hp, g1⟩, g5⟩
  case done =>
    rintro Z V ⟨g1, g2⟩ hD hdef
    have HG1 : Hid (J (pairsW (tableS h) t c) Z V) := by rw [HPS.out]; exact g1
    clear g1 g2
    gi_wp2
    refine leaves_marks (fun V' => J (pairsW (tableS h) t c) Z V') (fun V' hg => ⟨_, results_none rfl _ _ _, ⟨_, rfl⟩, .inl ⟨Z, hg⟩⟩) [w1.heap.size] V (by simp) (fun D hDm => by rw [List.mem_singleton.1 hDm]; exact hdef) (fun V' D hg hDm hw => ?_) HG1.out
    rw [List.mem_singleton] at hDm
    subst hDm
    exact HJ.out.putObj _ hg (by omega) hw rfl
  case stop =>
    rintro cd q Z V hq ⟨rfl, p, hp, g1⟩ hD hdef
    have HG1 := Lib.hid g1
    have HP := Lib.hid hp
    clear g1 hp
    gi_wp2
    refine leaves_marks (fun V' => Jx p Z V') (fun V' hg => ⟨_, results_none rfl _ _ _, ⟨_, rfl⟩, .inr ⟨p, Z, HP.out, hg⟩⟩) [w1.heap.size] V (by simp) (fun D hDm => by rw [List.mem_singleton.1 hDm]; exact hdef) (fun V' D hg hDm hw => ?_) HG1.out
    rw [List.mem_singleton] at hDm
    subst hDm
    exact HJX.out.putObj _ hg (by omega) hw rfl
end Go.Proofs.YtpjfhdljagkefaaGreatDoor
/- The walks of package world's views and seen: the search for what a transaction saw. -/
namespace Go.Proofs.YtpjfhdljagkefaaGreatDoor.WPlain
end Go.Proofs.YtpjfhdljagkefaaGreatDoor.WPlain
namespace Go.Proofs.YtpjfhdljagkefaaGreatDoor.QPlain
end Go.Proofs.YtpjfhdljagkefaaGreatDoor.QPlain
namespace Go.Proofs.YtpjfhdljagkefaaGreatDoor.RPlain
end Go.Proofs.YtpjfhdljagkefaaGreatDoor.RPlain
namespace Go.Proofs.YtpjfhdljagkefaaGreatDoor
open Go.RowKit Go.Shelf WPlain QPlain RPlain

attribute [local go_sem] Oper.semAt_some

theorem viewsW_any (ha ca aa : Option Addr) (hn hc cn cc ac : Nat) (l : List Tx) (t c : Nat) (w : World) :
    Calls Tryz.prog 38 #[.agg #[.slice ha hn hc, .slice aa l.length ac, .slice ca cn cc], .int .i64 (t : Int), .int .u32 (c : Int)] w fun e w' => e = .returned (.func (.func 63) #[] #[.pointer (some ⟨w.heap.size, 0, none⟩), .pointer (some ⟨w.heap.size + 1, 0, none⟩), .pointer (some ⟨w.heap.size + 2, 0, none⟩)]) ∧ Below w.heap.size w w' ∧
      ∀ X, (∀ k, X k → k < w.heap.size) → RdX X w (.slice aa l.length ac) (u32s (afterS l)) → VwC (.slice ha hn hc) (.slice ca cn cc) aa ac l t c w.heap.size (w.heap.size + 1) (w.heap.size + 2) X w' := by
  obtain ⟨n, hn'⟩ : ∃ n, l.length = n := ⟨_, rfl⟩
  have HN := Lib.hid hn'
  rw [hn']
  have HB : Hid (Below w.heap.size w (((w.alloc (.cells #[.slice ha hn hc, .slice aa n ac, .slice ca cn cc] 48)).alloc (.cells #[.int .i64 (t : Int)] 3)).alloc (.cells #[.int .u32 (c : Int)] 23))) :=
    (((Below.refl w.heap.size w).alloc (Nat.le_refl _) _).alloc (by simp) _).alloc (by simp; omega) _
  have HA0 : Hid (At (((w.alloc (.cells #[.slice ha hn hc, .slice aa n ac, .slice ca cn cc] 48)).alloc (.cells #[.int .i64 (t : Int)] 3)).alloc (.cells #[.int .u32 (c : Int)] 23)) w.heap.size #[.slice ha hn hc, .slice aa n ac, .slice ca cn cc] 48) := ((At.new w _ _).alloc _).alloc _
  have HA1 : Hid (At (((w.alloc (.cells #[.slice ha hn hc, .slice aa n ac, .slice ca cn cc] 48)).alloc (.cells #[.int .i64 (t : Int)] 3)).alloc (.cells #[.int .u32 (c : Int)] 23)) (w.heap.size + 1) #[.int .i64 (t : Int)] 3) := by
    have h := (At.new (w.alloc (.cells #[.slice ha hn hc, .slice aa n ac, .slice ca cn cc] 48)) #[.int .i64 (t : Int)] 3).alloc (.cells #[.int .u32 (c : Int)] 23)
    rwa [World.size_alloc] at h
  have HA2 : Hid (At (((w.alloc (.cells #[.slice ha hn hc, .slice aa n ac, .slice ca cn cc] 48)).alloc (.cells #[.int .i64 (t : Int)] 3)).alloc (.cells #[.int .u32 (c : Int)] 23)) (w.heap.size + 2) #[.int .u32 (c : Int)] 23) := by
    have h := At.new ((w.alloc (.cells #[.slice ha hn hc, .slice aa n ac, .slice ca cn cc] 48)).alloc (.cells #[.int .i64 (t : Int)] 3)) #[.int .u32 (c : Int)] 23
    rwa [World.size_alloc, World.size_alloc] at h
  clear hn'
  go_enter Tryz.func38, Tryz.ntmps38
  go_wp2
  go_ret
  refine ⟨rfl, HB.out, fun X hX hr => ⟨by rw [HN.out]; exact HA0.out, by rw [HN.out]; exact hr.below HB.out, HA1.out, HA2.out, fun hk => by have := hX _ hk; omega, fun hk => by have := hX _ hk; omega, fun hk => by have := hX _ hk; omega⟩⟩
theorem pair_row {l : List Tx} {t c set : Nat} {row : List Nat} (ht : t < l.length) (hp : (set, row) ∈ pairsW l t c) : row.Nodup ∧ (∀ k ∈ row, k < l.length) ∧ t ∉ row ∧ set ≤ c := by
  obtain ⟨h1, h2, h3, h4⟩ := pairsW_mem.1 hp
  obtain ⟨g1, g2, g3⟩ := rowsW_mem.1 h4
  refine ⟨g1, fun k hk => ((g2 k).1 hk).1, fun hk => ?_, h1⟩
  have h5 := (g2 t).1 hk
  exact ((may_iff.1 h2).1 t ht h5.2).1 rfl
/-- what the search holds between two pairs: its boxes, its steps, and nothing found yet -/
structure SeeI (w : World) (hv cv : Value) (aa : Option Addr) (ac : Nat) (l : List Tx) (t c B : Nat) (F : Nat × Nat × List Nat × Nat) (N : Nat) (S : Nat → Prop) (pre : List (Nat × List Nat)) (Z : Nat → Prop) (V : World) : Prop where
  left : ∀ rest, pairsW l t c = pre ++ rest → oneG B l t c rest pre.length = F
  le : pre.length ≤ B
  box : At V N #[hv, .slice aa l.length ac, cv] 48
  tx : At V (N + 1) #[.int .i64 (t : Int)] 3
  com : At V (N + 2) #[.int .u32 (c : Int)] 23
  bud : At V (N + 3) #[.int .i64 (B : Int)] 3
  res : At V (N + 4) #[.int .i64 0, .int .u32 0, .slice none 0 0, .int .i64 0] 26
  st : At V (N + 5) #[.int .i64 (pre.length : Int)] 3
  z : ∀ k, Z k ↔ S k ∨ k = N + 4 ∨ k = N + 5
  bel : Below N w V
theorem SeeI.own {w : World} {hv cv : Value} {aa : Option Addr} {ac : Nat} {l : List Tx} {t c B : Nat} {F : Nat × Nat × List Nat × Nat} {N C : Nat} {S : Nat → Prop} (hC : N ≤ C) (hN : w.heap.size = N) : OwnE C (SeeI w hv cv aa ac l t c B F N S) := by
  rintro pre Z V V' r h hg hr
  have hnc : ∀ k, r = some k → ∃ o : Obj, V.heap[k]? = some o ∧ o.isCells = false := fun k e => (hr k e).2
  exact ⟨h.left, h.le, at_own h.box hg hnc, at_own h.tx hg hnc, at_own h.com hg hnc, at_own h.bud hg hnc, at_own h.res hg hnc, at_own h.st hg hnc, h.z, h.bel.grown hg (by have := h.bel.size; omega) (fun k e => Nat.le_trans hC (hr k e).1)⟩
/-- what it holds when it has ended -/
def SeeX (w : World) (F : Nat × Nat × List Nat × Nat) (N : Nat) (S : Nat → Prop) (V : World) : Prop :=
  ∃ rv, At V (N + 4) (Go.Proofs.YtpjfhdljagkefaaGreatDoor.fnd F.1 F.2.1 rv F.2.2.2) 26 ∧ RdX S V rv (nats F.2.2.1) ∧ CapV rv ∧ SrcN rv ∧ Below N w V
theorem SeeX.own {w : World} {F : Nat × Nat × List Nat × Nat} {N C : Nat} {S : Nat → Prop} (hC : N ≤ C) (hN : w.heap.size = N) {V V' : World} {r : Option Nat} (h : SeeX w F N S V) (hg : V.grownBy V' r) (hr : ∀ k, r = some k → C ≤ k ∧ ∃ o : Obj, V.heap[k]? = some o ∧ o.isCells = false) : SeeX w F N S V' := by
  obtain ⟨rv, h1, h2, h3, h4, h5⟩ := h
  exact ⟨rv, at_own h1 hg (fun k e => (hr k e).2), rd_own h2 hg (fun k e => (hr k e).2), h3, h4, h5.grown hg (by have := h5.size; omega) (fun k e => Nat.le_trans hC (hr k e).1)⟩
theorem kept_only {X s : Nat → Prop} {W W' : World} (ho : Only s W W') (hs : ∀ k, s k → X k) : Kept X X W W' := ⟨ho.size, fun k hk hx => ho.block k hk (fun h => hx (hs k h)), fun _ h => .inl h⟩
set_option maxRecDepth 100000 in
set_option maxHeartbeats 8000000 in
theorem seenW_any (ha ca aa : Option Addr) (hc cn cc ac : Nat) (h : List Ev) (t c B : Nat) (w : World) (hE : TrE w (.slice ha h.length hc) (.slice aa (tableS h).length ac) h) (ht : t < (tableS h).length) (hcl : c < 2 ^ (tableS h).length) (hB : B ≤ 1000000)
    (S : Nat → Prop) (hS : ∀ k, S k → k < w.heap.size) (hr : RdX S w (.slice aa (tableS h).length ac) (u32s (afterS (tableS h)))) :
    Calls Tryz.prog 19 #[.agg #[.slice ha h.length hc, .slice aa (tableS h).length ac, .slice ca cn cc], .int .i64 (t : Int), .int .u32 (c : Int), .int .i64 (B : Int)] w fun e w' => ∃ rv, e = .returned (fndV (oneS B (tableS h) t c 0).1 (oneS B (tableS h) t c 0).2.1 rv (oneS B (tableS h) t c 0).2.2.2) ∧
      RdX S w' rv (nats (oneS B (tableS h) t c 0).2.2.1) ∧ CapV rv ∧ SrcN rv ∧ Below w.heap.size w w' := by
  obtain ⟨F, hF⟩ : ∃ F, oneS B (tableS h) t c 0 = F := ⟨_, rfl⟩
  rw [hF]
  have h6 := table_six hE.ok
  have hc32 := lt32 h6 hcl
  obtain ⟨N, hN⟩ : ∃ N, w.heap.size = N := ⟨_, rfl⟩
  have HVW := Lib.hid (fun (w1 : World) => viewsW_any ha ca aa h.length hc cn cc ac (tableS h) t c w1)
  have HVG := Lib.hid (fun (E Tb C : Nat) => viewsW1_gives ha ca aa h.length hc cn cc ac h hE.ok t c E Tb C ht hcl)
  have HIL := Lib.hid (fun (row : List Nat) (rv : Value) (w1 : World) (hb : Below w.heap.size w w1) h1 h2 h3 h4 h5 => isLegalW_any ha aa ca hc ac cn cc rv h row t c w1 (hE.later hb) h1 h2 h3 h4 h5 ht hc32)
  have HPR := Lib.hid (fun (set : Nat) (row : List Nat) hp => pair_row (l := tableS h) (t := t) (c := c) (set := set) (row := row) ht hp)
  obtain ⟨W0, hW0⟩ : ∃ W0, (((((w.alloc (.cells #[.slice ha h.length hc, .slice aa (tableS h).length ac, .slice ca cn cc] 48)).alloc (.cells #[.int .i64 (t : Int)] 3)).alloc (.cells #[.int .u32 (c : Int)] 23)).alloc (.cells #[.int .i64 (B : Int)] 3)).alloc (.cells #[.int .i64 0, .int .u32 0, .slice none 0 0, .int .i64 0] 26)).alloc (.cells #[.int .i64 0] 3) = W0 := ⟨_, rfl⟩
  have hs0 : W0.heap.size = N + 6 := by rw [← hW0, ← hN]; simp
  have hb0 : Below N w W0 := by
    rw [← hW0, ← hN]
    exact ((((((Below.refl w.heap.size w).alloc (Nat.le_refl _) _).alloc (by simp) _).alloc (by simp; omega) _).alloc (by simp; omega) _).alloc (by simp; omega) _).alloc (by simp; omega) _
  have hI0 : SeeI w (.slice ha h.length hc) (.slice ca cn cc) aa ac (tableS h) t c B F N S [] (fun k => S k ∨ k = N + 4 ∨ k = N + 5) W0 := by
    refine ⟨fun rest hre => ?_, Nat.zero_le _, ?_, ?_, ?_, ?_, ?_, ?_, fun k => Iff.rfl, hb0⟩
    · rw [List.nil_append] at hre
      rw [← hre, ← hF]
      rfl
    · rw [← hW0, ← hN]; exact (((((At.new w _ _).alloc _).alloc _).alloc _).alloc _).alloc _
    · rw [← hW0, ← hN]
      have := ((((At.new (w.alloc (.cells #[.slice ha h.length hc, .slice aa (tableS h).length ac, .slice ca cn cc] 48)) #[.int .i64 (t : Int)] 3).alloc (.cells #[.int .u32 (c : Int)] 23)).alloc (.cells #[.int .i64 (B : Int)] 3)).alloc (.cells #[.int .i64 0, .int .u32 0, .slice none 0 0, .int .i64 0] 26)).alloc (.cells #[.int .i64 0] 3)
      rwa [World.size_alloc] at this
    · rw [← hW0, ← hN]
      have := (((At.new ((w.alloc (.cells #[.slice ha h.length hc, .slice aa (tableS h).length ac, .slice ca cn cc] 48)).alloc (.cells #[.int .i64 (t : Int)] 3)) #[.int .u32 (c : Int)] 23).alloc (.cells #[.int .i64 (B : Int)] 3)).alloc (.cells #[.int .i64 0, .int .u32 0, .slice none 0 0, .int .i64 0] 26)).alloc (.cells #[.int .i64 0] 3)
      rwa [World.size_alloc, World.size_alloc] at this
    · rw [← hW0, ← hN]
      have := ((At.new (((w.alloc (.cells #[.slice ha h.length hc, .slice aa (tableS h).length ac, .slice ca cn cc] 48)).alloc (.cells #[.int .i64 (t : Int)] 3)).alloc (.cells #[.int .u32 (c : Int)] 23)) #[.int .i64 (B : Int)] 3).alloc (.cells #[.int .i64 0, .int .u32 0, .slice none 0 0, .int .i64 0] 26)).alloc (.cells #[.int .i64 0] 3)
      rwa [World.size_alloc, World.size_alloc, World.size_alloc] at this
    · rw [← hW0, ← hN]
      have := (At.new ((((w.alloc (.cells #[.slice ha h.length hc, .slice aa (tableS h).length ac, .slice ca cn cc] 48)).alloc (.cells #[.int .i64 (t : Int)] 3)).alloc (.cells #[.int .u32 (c : Int)] 23)).alloc (.cells #[.int .i64 (B : Int)] 3)) #[.int .i64 0, .int .u32 0, .slice none 0 0, .int .i64 0] 26).alloc (.cells #[.int .i64 0] 3)
      rwa [World.size_alloc, World.size_alloc, World.size_alloc, World.size_alloc] at this
    · rw [← hW0, ← hN]
      have := At.new (((((w.alloc (.cells #[.slice ha h.length hc, .slice aa (tableS h).length ac, .slice ca cn cc] 48)).alloc (.cells #[.int .i64 (t : Int)] 3)).alloc (.cells #[.int .u32 (c : Int)] 23)).alloc (.cells #[.int .i64 (B : Int)] 3)).alloc (.cells #[.int .i64 0, .int .u32 0, .slice none 0 0, .int .i64 0] 26)) #[.int .i64 0] 3
      rwa [World.size_alloc, World.size_alloc, World.size_alloc, World.size_alloc, World.size_alloc] at this
  have c0 : W0.cell? ⟨N, 0, none⟩ = some (.slice ha h.length hc) := hI0.box.cell rfl
  have c1 : W0.cell? ⟨N, 1, none⟩ = some (.slice aa (tableS h).length ac) := hI0.box.cell rfl
  have c2 : W0.cell? ⟨N, 2, none⟩ = some (.slice ca cn cc) := hI0.box.cell rfl
  have c3 : W0.cell? ⟨N + 1, 0, none⟩ = some (.int .i64 (t : Int)) := hI0.tx.cell rfl
  have c4 : W0.cell? ⟨N + 2, 0, none⟩ = some (.int .u32 (c : Int)) := hI0.com.cell rfl
  have c5 : W0.cell? ⟨N + 5, 0, none⟩ = some (.int .i64 0) := hI0.st.cell rfl
  have f5 : W0.frozen? ⟨N + 5, 0, none⟩ = false := hI0.st.free 0
  have hR0 : RdX (fun k => S k ∨ k = N + 4 ∨ k = N + 5) W0 (.slice aa (tableS h).length ac) (u32s (afterS (tableS h))) :=
    (hr.more (Y := fun k => S k ∨ k = N + 4 ∨ k = N + 5) (fun k hk hz => by rcases hz with hz | hz | hz; exact hz; omega; omega)).below (by rw [← hN] at hb0; exact hb0)
  have HR0 := Lib.hid hR0
  have HI0 := Lib.hid hI0
  have HSN := Lib.hid hS
  have HB0 := Lib.hid hb0
  clear hI0 hR0 hE hcl hr hS hF hb0
  refine (callsIn_wide (n := 6)).1 ?_
  refine callsIn_of_wp_marks Tryz.func19 rfl trivial ?_ rfl
  simp only [Tryz.ntmps19, List.size_toArray, List.length_cons, List.length_nil, Nat.reduceAdd, Nat.reduceSub, Array.replicate_succ, Array.replicate_zero, List.push_toArray, List.append_toArray, List.nil_append, List.cons_append]
  gi_wp2_with (refine ⟨trivial, ?_⟩; gi_at_call 38; refine (callsIn_wide.2 (HVW.out _)).mono ?_; rintro e w1 ⟨rfl, hb1, hst1⟩)
  have hIs : SeeI w (.slice ha h.length hc) (.slice ca cn cc) aa ac (tableS h) t c B F N S [] (fun k => S k ∨ k = N + 4 ∨ k = N + 5) (W0.setCell ⟨N + 1 + 1 + 1 + 1 + 1, 0, none⟩ (.int .i64 0)) :=
    ⟨HI0.out.left, HI0.out.le, HI0.out.box.other (by dsimp only; omega) _, HI0.out.tx.other (by dsimp only; omega) _, HI0.out.com.other (by dsimp only; omega) _, HI0.out.bud.other (by dsimp only; omega) _, HI0.out.res.other (by dsimp only; omega) _, HI0.out.st.set 0 _, HI0.out.z, HI0.out.bel.setCell (by dsimp only; omega) _⟩
  have hss : (W0.setCell ⟨N + 1 + 1 + 1 + 1 + 1, 0, none⟩ (.int .i64 0)).heap.size = N + 6 := by
    show (W0.heap.modify _ _).size = _
    rw [Array.size_modify, hs0]
  have hRs : RdX (fun k => S k ∨ k = N + 4 ∨ k = N + 5) (W0.setCell ⟨N + 1 + 1 + 1 + 1 + 1, 0, none⟩ (.int .i64 0)) (.slice aa (tableS h).length ac) (u32s (afterS (tableS h))) :=
    (kept_only (X := fun k => S k ∨ k = N + 4 ∨ k = N + 5) (s := fun k => k = N + 1 + 1 + 1 + 1 + 1) ((Only.refl (fun k => k = N + 1 + 1 + 1 + 1 + 1) W0).setCell (p := ⟨N + 1 + 1 + 1 + 1 + 1, 0, none⟩) (fun _ => rfl) _) (fun k hk => .inr (.inr hk))).rd HR0.out
  clear hW0 c0 c1 c2 c3 c4 c5 f5 HI0 HR0 HB0 hs0
  generalize W0.setCell ⟨N + 1 + 1 + 1 + 1 + 1, 0, none⟩ (.int .i64 0) = Ws at *
  have hb1s := hb1.size
  rw [hss] at hst1
  have HST := Lib.hid hst1
  have HI1 : Hid (SeeI w (.slice ha h.length hc) (.slice ca cn cc) aa ac (tableS h) t c B F N S [] (fun k => S k ∨ k = N + 4 ∨ k = N + 5) w1) :=
    SeeI.own (C := N) (Nat.le_refl _) hN _ _ _ _ none hIs (grownB11 hb1) (fun k e => by cases e)
  have HRS := Lib.hid hRs
  clear hst1 hIs hRs HVW hb1
  refine range_e (Enc := EncP) (gf := 63) (lb := #[.pointer (some ⟨N + 6, 0, none⟩), .pointer (some ⟨N + 6 + 1, 0, none⟩), .pointer (some ⟨N + 6 + 2, 0, none⟩)]) rfl (enters_of Tryz.func63 (by kernel_rfl) rfl)
    (fun r vs X W h => by obtain ⟨v, rfl, _⟩ := h; rfl) (fun r vs X Y W h hy => h.less hy) (HVG.out (N + 6) (N + 6 + 1) (N + 6 + 2))
    (SeeI w (.slice ha h.length hc) (.slice ca cn cc) aa ac (tableS h) t c B F N S) (fun cd _ Z V => cd = .ret ∧ SeeX w F N S V) (fun k => S k ∨ k = N + 4 ∨ k = N + 5) ?hyp ?top (SeeI.own (by omega) hN) ?ownX HI1.out ?round ?done ?stop
  case hyp =>
    intro W1 hb
    refine ((HST.out (fun k => S k ∨ k = N + 4 ∨ k = N + 5) (fun k hk => ?_) HRS.out).more (Z := addX (fun k => S k ∨ k = N + 4 ∨ k = N + 5) (w1.heap.size + 1)) (fun k hk hz => ?_)).kept (Kept.below _ hb)
    · rcases hk with hk | hk | hk
      · have := HSN.out k hk; omega
      · omega
      · omega
    · rcases hz with hz | rfl
      · exact hz
      · omega
  case top =>
    intro pre Z V hz k hk
    rcases (hz.z k).1 hk with hk | rfl | rfl
    · have := HSN.out k hk; have := hz.bel.size; omega
    · exact hz.res.lt
    · exact hz.st.lt
  case ownX =>
    rintro cd q Z V V' r ⟨g0, g1⟩ hg hr
    exact ⟨g0, g1.own (by omega) hN hg hr⟩
  case round =>
    rintro l' pre p vs Z V hl1 hl2 hl3 hI hTp ⟨v, rfl, hv1, hv2, hv3⟩
    obtain ⟨va, vc, rfl⟩ := hv1.rd.len
    have hpm : p ∈ pairsW (tableS h) t c := hTp.subset (List.mem_append_right _ (List.mem_singleton.2 rfl))
    obtain ⟨q1, q2, q3, q4⟩ := HPR.out p.1 p.2 hpm
    obtain ⟨rest, hrest⟩ := hTp
    have hto := hI.left (p :: rest) (by rw [← hrest, List.append_assoc]; rfl)
    rw [oneG] at hto
    have hnext : ∀ rest', pairsW (tableS h) t c = pre ++ [p] ++ rest' → rest' = rest := fun rest' he => by
      rw [← hrest] at he
      exact (List.append_cancel_left he).symm
    have HNEXT := Lib.hid hnext
    have HTO := Lib.hid hto
    have hZ : ∀ k, Z k ↔ S k ∨ k = N + 4 ∨ k = N + 5 := hI.z
    gi_wp2
    refine ⟨Kept.refl _ _, ?_⟩
    intro V2 hg hnc _
    have hro : ∀ k, some l' = some k → w1.heap.size ≤ k ∧ ∃ o : Obj, V.heap[k]? = some o ∧ o.isCells = false := fun k e => by cases e; exact ⟨hl1, hnc⟩
    have hI2 := SeeI.own (C := w1.heap.size) (by omega) hN _ _ _ _ _ hI hg hro
    have hv' := rd_own hv1 hg (fun k e => (hro k e).2)
    have HI2 := Lib.hid hI2
    have HV' := Lib.hid hv'
    have hlen : (nats p.2).length = p.2.length := nats_len _
    have HQ1 := Lib.hid q1
    have HQ2 := Lib.hid q2
    have HQ3 := Lib.hid q3
    have HZ := Lib.hid hZ
    have HPM := Lib.hid hpm
    have hc3 : V2.cell? ⟨N + 5, 0, none⟩ = some (.int .i64 (pre.length : Int)) := hI2.st.cell rfl
    have hc4 : V2.cell? ⟨N + 3, 0, none⟩ = some (.int .i64 (B : Int)) := hI2.bud.cell rfl
    have hle := hI2.le
    have HRES := Lib.hid hI2.res
    clear hI hI2 hv1 hv' hg hnc hro hto hnext hrest hpm q1 q2 q3 q4 hZ
    obtain ⟨set, row⟩ := p
    dsimp only at *
    obtain ⟨rn, hrn⟩ : ∃ z, (nats row).length = z := ⟨_, rfl⟩
    rw [hrn] at HV' hv2 hv3 ⊢
    have HRN := Lib.hid hrn
    clear hlen hrn
    obtain ⟨s, hs⟩ : ∃ s, pre.length = s := ⟨_, rfl⟩
    have HS := Lib.hid hs
    rw [hs] at hc3 hle HTO
    clear hs
    by_cases hsB : s = B
    · have hF := HTO.out
      rw [if_pos hsB] at hF
      subst hsB
      have tq : ((s : Int) == (s : Int)) = true := by simp
      have r0 : V2.cell? ⟨N + 4, 0, none⟩ = some (.int .i64 0) := HRES.out.cell rfl
      have r1 : V2.cell? ⟨N + 4, 1, none⟩ = some (.int .u32 0) := HRES.out.cell rfl
      have r2 : V2.cell? ⟨N + 4, 2, none⟩ = some (.slice none 0 0) := HRES.out.cell rfl
      have r3 : V2.cell? ⟨N + 4, 3, none⟩ = some (.int .i64 0) := HRES.out.cell rfl
      have f0 := HRES.out.free 0
      have f1 := HRES.out.free 1
      have f2 := HRES.out.free 2
      have f3 := HRES.out.free 3
      gi_wp2
      have HK := Lib.hid (kept_only (X := Z) (fnd_only V2 (N + 4) (.int .i64 2) (.int .u32 0) (.slice none 0 0) (.int .i64 (s : Int))) (fun k hk => (HZ.out k).2 (.inr (.inl hk))))
      have HF6 : Hid (At ((((V2.setCell ⟨N + 4, 0, none⟩ (.int .i64 2)).setCell ⟨N + 4, 1, none⟩ (.int .u32 0)).setCell ⟨N + 4, 2, none⟩ (.slice none 0 0)).setCell ⟨N + 4, 3, none⟩ (.int .i64 (s : Int))) (N + 4) (fnd 2 0 (.slice none 0 0) s) 26) := (((HRES.out.set 0 _).set 1 _).set 2 _).set 3 _
      have HBW := Lib.hid (((((HI2.out.bel.setCell (p := ⟨N + 4, 0, none⟩) (by dsimp only; omega) (.int .i64 2)).setCell (p := ⟨N + 4, 1, none⟩) (by dsimp only; omega) (.int .u32 0)).setCell (p := ⟨N + 4, 2, none⟩) (by dsimp only; omega) (.slice none 0 0)).setCell (p := ⟨N + 4, 3, none⟩) (by dsimp only; omega) (.int .i64 (s : Int))))
      exact ⟨Z, ⟨rfl, .slice none 0 0, by rw [← hF]; exact HF6.out, by rw [← hF]; exact .inl ⟨rfl, _, _, rfl⟩, capV_nil, .inl rfl, HBW.out⟩, HK.out⟩
    · have hF := HTO.out
      rw [if_neg hsB] at hF
      have HFF := Lib.hid hF
      have tq : ((s : Int) == (B : Int)) = false := by rw [beq_eq_false_iff_ne]; omega
      have f5 := HI2.out.st.free 0
      have hil := fun (w3 : World) (hb : Below w.heap.size w w3) (hr3 : Rd w3 (.slice va rn vc) (nats row)) => HIL.out row (.slice va rn vc) w3 hb hr3 hv2 HQ1.out HQ2.out HQ3.out
      have HIL2 := Lib.hid hil
      have HS5 : Hid (At (V2.setCell ⟨N + 5, 0, none⟩ (.int .i64 ((s : Int) + 1))) (N + 5) #[.int .i64 (((pre ++ [(set, row)]).length : Nat) : Int)] 3) := by
        have := HI2.out.st.set 0 (.int .i64 ((s : Int) + 1))
        rw [List.length_append, HS.out]
        exact this
      have HS5b : Hid (At (V2.setCell ⟨N + 5, 0, none⟩ (.int .i64 ((s : Int) + 1))) (N + 5) #[.int .i64 ((s : Int) + 1)] 3) := HI2.out.st.set 0 (.int .i64 ((s : Int) + 1))
      have HK5 := Lib.hid (kept_only (X := Z) ((Only.refl (fun k => k = N + 5) V2).setCell (p := ⟨N + 5, 0, none⟩) (fun _ => rfl) (.int .i64 ((s : Int) + 1))) (fun k hk => (HZ.out k).2 (.inr (.inr hk))))
      have HB5 := Lib.hid (HI2.out.bel.setCell (p := ⟨N + 5, 0, none⟩) (by dsimp only; omega) (.int .i64 ((s : Int) + 1)))
      have hE0 := HI2.out.box.other (a := ⟨N + 5, 0, none⟩) (by dsimp only; omega) (.int .i64 ((s : Int) + 1))
      have hE1 := HI2.out.tx.other (a := ⟨N + 5, 0, none⟩) (by dsimp only; omega) (.int .i64 ((s : Int) + 1))
      have hE2 := HI2.out.com.other (a := ⟨N + 5, 0, none⟩) (by dsimp only; omega) (.int .i64 ((s : Int) + 1))
      have hE3 := HI2.out.bud.other (a := ⟨N + 5, 0, none⟩) (by dsimp only; omega) (.int .i64 ((s : Int) + 1))
      have hE4 := HRES.out.other (a := ⟨N + 5, 0, none⟩) (by dsimp only; omega) (.int .i64 ((s : Int) + 1))
      have HV5 := Lib.hid (HK5.out.rd HV'.out)
      have HTL : Hid (∃ tl, tellW (tableS h) t c row = tl) := ⟨_, rfl⟩
      have c0 : (V2.setCell ⟨N + 5, 0, none⟩ (.int .i64 ((s : Int) + 1))).cell? ⟨N, 0, none⟩ = some (.slice ha h.length hc) := hE0.cell rfl
      have c1 : (V2.setCell ⟨N + 5, 0, none⟩ (.int .i64 ((s : Int) + 1))).cell? ⟨N, 1, none⟩ = some (.slice aa (tableS h).length ac) := hE0.cell rfl
      have c2 : (V2.setCell ⟨N + 5, 0, none⟩ (.int .i64 ((s : Int) + 1))).cell? ⟨N, 2, none⟩ = some (.slice ca cn cc) := hE0.cell rfl
      have c3 : (V2.setCell ⟨N + 5, 0, none⟩ (.int .i64 ((s : Int) + 1))).cell? ⟨N + 1, 0, none⟩ = some (.int .i64 (t : Int)) := hE1.cell rfl
      have c4 : (V2.setCell ⟨N + 5, 0, none⟩ (.int .i64 ((s : Int) + 1))).cell? ⟨N + 2, 0, none⟩ = some (.int .u32 (c : Int)) := hE2.cell rfl
      have HE0 := Lib.hid hE0
      have HE1 := Lib.hid hE1
      have HE2 := Lib.hid hE2
      have HE3 := Lib.hid hE3
      have HE4 := Lib.hid hE4
      clear hE0 hE1 hE2 hE3 hE4 hF hil HRES HIL
      have hcall := HIL2.out (V2.setCell ⟨N + 5, 0, none⟩ (.int .i64 ((s : Int) + 1))) (by rw [hN]; exact HB5.out) HV5.out.rd
      obtain ⟨tl, htl⟩ := HTL.out
      rw [htl] at hcall
      have HFF2 := Lib.hid HFF.out
      unfold Hid at HFF2
      rw [htl] at HFF2
      have HFF3 := Lib.hid HFF2
      clear HFF2 HFF htl HTL
      have hVs : (V2.setCell ⟨N + 5, 0, none⟩ (.int .i64 ((s : Int) + 1))).heap.size = V2.heap.size := by
        show (V2.heap.modify _ _).size = _
        rw [Array.size_modify]
      have HVS := Lib.hid hVs
      clear hVs
      cases tl with
      | true =>
        have hF := HFF3.out
        rw [if_pos rfl] at hF
        have HF := Lib.hid hF
        clear hF
        gi_wp2_with (refine ⟨trivial, ?_⟩; gi_at_call 39; refine (CallsIn.inRound l' (callsIn_wide.2 hcall)).mono ?_; rintro e V3 ⟨rfl, hb3⟩; have ha4 := HE4.out.below hb3 HE4.out.lt; have k5 : V3.cell? ⟨N + 5, 0, none⟩ = some (.int .i64 ((s : Int) + 1)) := (HS5b.out.below hb3 HS5b.out.lt).cell rfl; have r0 : V3.cell? ⟨N + 4, 0, none⟩ = some (.int .i64 0) := ha4.cell rfl; have r1 : V3.cell? ⟨N + 4, 1, none⟩ = some (.int .u32 0) := ha4.cell rfl; have r2 : V3.cell? ⟨N + 4, 2, none⟩ = some (.slice none 0 0) := ha4.cell rfl; have r3 : V3.cell? ⟨N + 4, 3, none⟩ = some (.int .i64 0) := ha4.cell rfl; have f0 := ha4.free 0; have f1 := ha4.free 1; have f2 := ha4.free 2; have f3 := ha4.free 3)
        have HK3 : Hid (Kept Z Z V2 V3) := HK5.out.trans (Kept.below Z hb3)
        have HV3 := Lib.hid (HV5.out.below hb3)
        have HB3 : Hid (Below N w V3) := HB5.out.trans (hb3.mono (by rw [← hN]; rw [← hN] at HB5; exact HB5.out.size))
        have HA4 := Lib.hid ha4
        clear hb3 ha4 k5 r0 r1 r2 r3 f0 f1 f2 f3 hcall c0 c1 c2 c3 c4 f5
        have HK := Lib.hid (kept_only (X := Z) (fnd_only V3 (N + 4) (.int .i64 0) (.int .u32 (set : Int)) (.slice va rn vc) (.int .i64 ((s : Int) + 1))) (fun k hk => (HZ.out k).2 (.inr (.inl hk))))
        have HF6 : Hid (At ((((V3.setCell ⟨N + 4, 0, none⟩ (.int .i64 0)).setCell ⟨N + 4, 1, none⟩ (.int .u32 (set : Int))).setCell ⟨N + 4, 2, none⟩ (.slice va rn vc)).setCell ⟨N + 4, 3, none⟩ (.int .i64 ((s : Int) + 1))) (N + 4) (fnd 0 set (.slice va rn vc) (s + 1)) 26) := (((HA4.out.set 0 _).set 1 _).set 2 _).set 3 _
        have HBW := Lib.hid (((((HB3.out.setCell (p := ⟨N + 4, 0, none⟩) (by dsimp only; omega) (.int .i64 0)).setCell (p := ⟨N + 4, 1, none⟩) (by dsimp only; omega) (.int .u32 (set : Int))).setCell (p := ⟨N + 4, 2, none⟩) (by dsimp only; omega) (.slice va rn vc)).setCell (p := ⟨N + 4, 3, none⟩) (by dsimp only; omega) (.int .i64 ((s : Int) + 1))))
        have HR6 := Lib.hid ((HK.out.rd HV3.out).less (fun k hk => (HZ.out k).2 (.inl hk)))
        exact ⟨Z, ⟨rfl, .slice va rn vc, by rw [← HF.out]; exact HF6.out, by rw [← HF.out]; exact HR6.out, hv3, hv2, HBW.out⟩, HK3.out.trans HK.out⟩
      | false =>
        have hF := HFF3.out
        rw [if_neg (by decide)] at hF
        have HF := Lib.hid hF
        clear hF
        gi_wp2_with (refine ⟨trivial, ?_⟩; gi_at_call 39; refine (CallsIn.inRound l' (callsIn_wide.2 hcall)).mono ?_; rintro e V3 ⟨rfl, hb3⟩)
        have hb3n := HB5.out.size
        refine ⟨Z, ⟨fun rest' he => ?_, ?_, HE0.out.below hb3 HE0.out.lt, HE1.out.below hb3 HE1.out.lt, HE2.out.below hb3 HE2.out.lt, HE3.out.below hb3 HE3.out.lt, HE4.out.below hb3 HE4.out.lt, HS5.out.below hb3 HS5.out.lt, HZ.out, HB5.out.trans (hb3.mono (by rw [← hN]; rw [← hN] at hb3n; exact hb3n))⟩, HK5.out.trans (Kept.below Z hb3)⟩
        · rw [HNEXT.out rest' he, List.length_append, List.length_singleton, HS.out]
          exact HF.out
        · rw [List.length_append, List.length_singleton, HS.out]
          omega
  case done =>
    rintro Z V hI hD hdef
    have hF := hI.left [] (by simp)
    have hlen : ([] ++ pairsW (tableS h) t c : List (Nat × List Nat)).length ≤ B := hI.le
    have hF2 : (1, 0, [], ([] ++ pairsW (tableS h) t c : List (Nat × List Nat)).length) = F := hF
    have hc3 : V.cell? ⟨N + 5, 0, none⟩ = some (.int .i64 (([] ++ pairsW (tableS h) t c : List (Nat × List Nat)).length : Int)) := hI.st.cell rfl
    have HRES := Lib.hid hI.res
    have HBL := Lib.hid hI.bel
    clear hF hI
    generalize ([] ++ pairsW (tableS h) t c : List (Nat × List Nat)).length = s at *
    have r0 : V.cell? ⟨N + 4, 0, none⟩ = some (.int .i64 0) := HRES.out.cell rfl
    have r1 : V.cell? ⟨N + 4, 1, none⟩ = some (.int .u32 0) := HRES.out.cell rfl
    have r2 : V.cell? ⟨N + 4, 2, none⟩ = some (.slice none 0 0) := HRES.out.cell rfl
    have r3 : V.cell? ⟨N + 4, 3, none⟩ = some (.int .i64 0) := HRES.out.cell rfl
    have f0 := HRES.out.free 0
    have f1 := HRES.out.free 1
    have f2 := HRES.out.free 2
    have f3 := HRES.out.free 3
    have HDEF := Lib.hid hdef
    have HF2 := Lib.hid hF2
    clear hdef hF2
    gi_wp2
    have HF6 : Hid (At ((((V.setCell ⟨N + 4, 0, none⟩ (.int .i64 1)).setCell ⟨N + 4, 1, none⟩ (.int .u32 0)).setCell ⟨N + 4, 2, none⟩ (.slice none 0 0)).setCell ⟨N + 4, 3, none⟩ (.int .i64 (s : Int))) (N + 4) (fnd 1 0 (.slice none 0 0) s) 26) := (((HRES.out.set 0 _).set 1 _).set 2 _).set 3 _
    have HBW := Lib.hid (((((HBL.out.setCell (p := ⟨N + 4, 0, none⟩) (by dsimp only; omega) (.int .i64 1)).setCell (p := ⟨N + 4, 1, none⟩) (by dsimp only; omega) (.int .u32 0)).setCell (p := ⟨N + 4, 2, none⟩) (by dsimp only; omega) (.slice none 0 0)).setCell (p := ⟨N + 4, 3, none⟩) (by dsimp only; omega) (.int .i64 (s : Int))))
    have HGD : Hid (SeeX w F N S ((((V.setCell ⟨N + 4, 0, none⟩ (.int .i64 1)).setCell ⟨N + 4, 1, none⟩ (.int .u32 0)).setCell ⟨N + 4, 2, none⟩ (.slice none 0 0)).setCell ⟨N + 4, 3, none⟩ (.int .i64 (s : Int)))) :=
      ⟨.slice none 0 0, by rw [← HF2.out]; exact HF6.out, by rw [← HF2.out]; exact .inl ⟨rfl, _, _, rfl⟩, capV_nil, .inl rfl, HBW.out⟩
    have HMK : Hid (((((V.setCell ⟨N + 4, 0, none⟩ (.int .i64 1)).setCell ⟨N + 4, 1, none⟩ (.int .u32 0)).setCell ⟨N + 4, 2, none⟩ (.slice none 0 0)).setCell ⟨N + 4, 3, none⟩ (.int .i64 (s : Int))).heap[w1.heap.size]? = some (.deferred (some []))) := by
      unfold Hid
      rw [Below.heap_setCell _ _ _ _ (by dsimp only; omega), Below.heap_setCell _ _ _ _ (by dsimp only; omega), Below.heap_setCell _ _ _ _ (by dsimp only; omega), Below.heap_setCell _ _ _ _ (by dsimp only; omega)]
      exact HDEF.out
    refine leaves_marks (fun V' => SeeX w F N S V') (fun V' hg => ?_) [w1.heap.size] _ (by simp) (fun D hDm => by rw [List.mem_singleton.1 hDm]; exact HMK.out) (fun V' D hg hDm hw => ?_) HGD.out
    · obtain ⟨rv, g1, g2, g3, g4, g5⟩ := hg
      obtain ⟨xa, xc, rfl⟩ := g2.rd.len
      have q0 : V'.cell? ⟨N + 4, 0, none⟩ = some (.int .i64 (F.1 : Int)) := g1.cell rfl
      have q1 : V'.cell? ⟨N + 4, 1, none⟩ = some (.int .u32 (F.2.1 : Int)) := g1.cell rfl
      have q2 : V'.cell? ⟨N + 4, 2, none⟩ = some (.slice xa (nats F.2.2.1).length xc) := g1.cell rfl
      have q3 : V'.cell? ⟨N + 4, 3, none⟩ = some (.int .i64 (F.2.2.2 : Int)) := g1.cell rfl
      refine ⟨fndV F.1 F.2.1 (.slice xa (nats F.2.2.1).length xc) F.2.2.2, by simp [results, Tryz.results19, go_sem, q0, q1, q2, q3]; rfl, _, rfl, g2, g3, g4, ?_⟩
      rw [hN]; exact g5
    · rw [List.mem_singleton] at hDm
      subst hDm
      exact hg.own (C := N) (Nat.le_refl _) hN (grownBy_putObj' V' w1.heap.size _) (fun k e => by cases e; exact ⟨by omega, _, hw, rfl⟩)
  case stop =>
    rintro cd q Z V hq ⟨rfl, hX⟩ hD hdef
    have HGD := Lib.hid hX
    have HDEF := Lib.hid hdef
    clear hX hdef
    gi_wp2
    refine leaves_marks (fun V' => SeeX w F N S V') (fun V' hg => ?_) [w1.heap.size] _ (by simp) (fun D hDm => by rw [List.mem_singleton.1 hDm]; exact HDEF.out) (fun V' D hg hDm hw => ?_) HGD.out
    · obtain ⟨rv, g1, g2, g3, g4, g5⟩ := hg
      obtain ⟨xa, xc, rfl⟩ := g2.rd.len
      have q0 : V'.cell? ⟨N + 4, 0, none⟩ = some (.int .i64 (F.1 : Int)) := g1.cell rfl
      have q1 : V'.cell? ⟨N + 4, 1, none⟩ = some (.int .u32 (F.2.1 : Int)) := g1.cell rfl
      have q2 : V'.cell? ⟨N + 4, 2, none⟩ = some (.slice xa (nats F.2.2.1).length xc) := g1.cell rfl
      have q3 : V'.cell? ⟨N + 4, 3, none⟩ = some (.int .i64 (F.2.2.2 : Int)) := g1.cell rfl
      refine ⟨fndV F.1 F.2.1 (.slice xa (nats F.2.2.1).length xc) F.2.2.2, by simp [results, Tryz.results19, go_sem, q0, q1, q2, q3]; rfl, _, rfl, g2, g3, g4, ?_⟩
      rw [hN]; exact g5
    · rw [List.mem_singleton] at hDm
      subst hDm
      exact hg.own (C := N) (Nat.le_refl _) hN (grownBy_putObj' V' w1.heap.size _) (fun k e => by cases e; exact ⟨by omega, _, hw, rfl⟩)
end Go.Proofs.YtpjfhdljagkefaaGreatDoor
