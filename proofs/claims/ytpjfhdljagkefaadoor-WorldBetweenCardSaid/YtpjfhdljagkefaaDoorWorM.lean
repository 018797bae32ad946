/- The walks of package world's views and of the iterator that it makes: a range over an iterator within a range over an iterator. -/
import Derived.Test.YtpjfhdljagkefaaDoorWorL
namespace Go.Proofs.YtpjfhdljagkefaaDoor.WPlain
end Go.Proofs.YtpjfhdljagkefaaDoor.WPlain
namespace Go.Proofs.YtpjfhdljagkefaaDoor.QPlain
end Go.Proofs.YtpjfhdljagkefaaDoor.QPlain
namespace Go.Proofs.YtpjfhdljagkefaaDoor.RPlain
end Go.Proofs.YtpjfhdljagkefaaDoor.RPlain
namespace Go.Proofs.YtpjfhdljagkefaaDoor
open Go.RowKit Go.Shelf WPlain QPlain RPlain

attribute [local go_sem] Oper.semAt_some

/-- a set and a row of it, as they are handed on -/
def EncP (p : Nat × List Nat) (vs : Array Value) (X : Nat → Prop) (W : World) : Prop := ∃ v, vs = #[.int .u32 (p.1 : Int), v] ∧ RdX X W v (nats p.2) ∧ SrcN v ∧ CapV v
theorem EncP.less {p : Nat × List Nat} {vs : Array Value} {X Y : Nat → Prop} {W : World} (h : EncP p vs X W) (hy : ∀ k, Y k → X k) : EncP p vs Y W := by
  obtain ⟨v, h1, h2, h3⟩ := h
  exact ⟨v, h1, h2.less hy, h3⟩
/-- the pairs of some sets -/
def pairsL (l : List Tx) (sets : List Nat) : List (Nat × List Nat) := sets.flatMap fun set => (rowsW l set).map fun r => (set, r)
theorem pairsL_snoc (l : List Tx) (pre : List Nat) (x : Nat) : pairsL l (pre ++ [x]) = pairsL l pre ++ (rowsW l x).map fun r => (x, r) := by
  unfold pairsL
  rw [List.flatMap_append]
  simp
theorem pairsL_pre {l : List Tx} {pre T : List Nat} (h : pre <+: T) : pairsL l pre <+: pairsL l T := by
  obtain ⟨q, rfl⟩ := h
  unfold pairsL
  rw [List.flatMap_append]
  exact List.prefix_append _ _
/-- what the iterator over the pairs has captured -/
structure VwC (hv cv : Value) (aa : Option Addr) (ac : Nat) (l : List Tx) (t c E Tb C : Nat) (X : Nat → Prop) (W : World) : Prop where
  box : At W E #[hv, .slice aa l.length ac, cv] 45
  aft : RdX X W (.slice aa l.length ac) (u32s (afterS l))
  tx : At W Tb #[.int .i64 (t : Int)] 3
  com : At W C #[.int .u32 (c : Int)] 23
  off : ¬ X E ∧ ¬ X Tb ∧ ¬ X C
section
variable {hv cv : Value} {aa : Option Addr} {ac : Nat} {l : List Tx} {t c E Tb C Y lp : Nat} {X X' : Nat → Prop} {W W' : World}
theorem VwC.kept (h : VwC hv cv aa ac l t c E Tb C X W) (hk : Kept X X' W W') : VwC hv cv aa ac l t c E Tb C X' W' := by
  obtain ⟨h1, h2, h4, h5, h6, h8, h9⟩ := h
  exact ⟨hk.at h1 h6, hk.rd h2, hk.at h4 h8, hk.at h5 h9, hk.not h1.lt h6, hk.not h4.lt h8, hk.not h5.lt h9⟩
theorem VwC.own {r : Option Nat} (h : VwC hv cv aa ac l t c E Tb C X W) (hg : W.grownBy W' r) (hr : ∀ k, r = some k → ∃ o : Obj, W.heap[k]? = some o ∧ o.isCells = false) : VwC hv cv aa ac l t c E Tb C X W' := by
  obtain ⟨h1, h2, h4, h5, h6⟩ := h
  exact ⟨at_own h1 hg hr, rd_own h2 hg hr, at_own h4 hg hr, at_own h5 hg hr, h6⟩
theorem VwC.more {Z : Nat → Prop} (h : VwC hv cv aa ac l t c E Tb C X W) (hy : ∀ k, k < W.heap.size → Z k → X k) : VwC hv cv aa ac l t c E Tb C Z W := by
  obtain ⟨h1, h2, h4, h5, h6, h8, h9⟩ := h
  exact ⟨h1, h2.more hy, h4, h5, fun h => h6 (hy _ h1.lt h), fun h => h8 (hy _ h4.lt h), fun h => h9 (hy _ h5.lt h)⟩
/-- .. and the function to hand them to -/
structure VwI (hv cv : Value) (aa : Option Addr) (ac : Nat) (l : List Tx) (t c E Tb C Y lp : Nat) (X : Nat → Prop) (W : World) : Prop where
  cap : VwC hv cv aa ac l t c E Tb C X W
  yl : At W Y #[.func (.yield lp) #[] #[]] 106
  off : ¬ X Y
theorem VwI.kept (h : VwI hv cv aa ac l t c E Tb C Y lp X W) (hk : Kept X X' W W') : VwI hv cv aa ac l t c E Tb C Y lp X' W' := ⟨h.cap.kept hk, hk.at h.yl h.off, hk.not h.yl.lt h.off⟩
theorem VwI.own {r : Option Nat} (h : VwI hv cv aa ac l t c E Tb C Y lp X W) (hg : W.grownBy W' r) (hr : ∀ k, r = some k → ∃ o : Obj, W.heap[k]? = some o ∧ o.isCells = false) : VwI hv cv aa ac l t c E Tb C Y lp X W' :=
  ⟨h.cap.own hg hr, at_own h.yl hg hr, h.off⟩
end
set_option maxRecDepth 100000 in
set_option maxHeartbeats 8000000 in
theorem viewsW1_gives (ha ca aa : Option Addr) (hn hc cn cc ac : Nat) (h : List Ev) (h0 : (checkS h).2 = 0) (t c E Tb C : Nat) (ht : t < (tableS h).length) (hcl : c < 2 ^ (tableS h).length) :
    GivesE EncP Tryd.prog 52 #[.pointer (some ⟨E, 0, none⟩), .pointer (some ⟨Tb, 0, none⟩), .pointer (some ⟨C, 0, none⟩)] (VwC (.slice ha hn hc) (.slice ca cn cc) aa ac (tableS h) t c E Tb C) [] (pairsW (tableS h) t c) (pairsW (tableS h) t c) := by
  intro lp J Jx X W hC hJ hJx htop hY hJ0
  have h6 := table_six h0
  have HPS : Hid (pairsW (tableS h) t c = pairsL (tableS h) (setsN (afterS (tableS h)) t c)) := pairs_sets h6 ht hcl
  have HSC : Hid (∀ x ∈ setsN (afterS (tableS h)) t c, x < 2 ^ (tableS h).length) := fun x hx => by
    have h1 := List.mem_range.1 (List.mem_filter.1 hx).1
    have h2 : amongN (afterS (tableS h)) t c ≤ c := Nat.le_trans (lessN_le _ _) (lessN_le _ _)
    omega
  have hb0 : Below W.heap.size W (W.alloc (.cells #[.func (.yield lp) #[] #[]] 106)) := (Below.refl _ W).alloc (Nat.le_refl _) _
  have hat0 := At.new W #[.func (.yield lp) #[] #[]] 106
  have hs0 : (W.alloc (.cells #[.func (.yield lp) #[] #[]] 106)).heap.size = W.heap.size + 1 := by simp
  have hCk := hC.kept (Kept.below X hb0)
  have HSETS := Lib.hid (fun (w1 : World) hr => setsW_any ha ca aa hn hc cn cc ac (tableS h) h6 t c ht hcl w1 hr)
  have HSG := Lib.hid (fun (U E' T' O : Nat) => setsW1_gives ha ca aa hn hc cn cc ac (tableS h) h6 t c U E' T' O ht hcl)
  have HROWS := Lib.hid (fun (x : Nat) (hx : x < 2 ^ (tableS h).length) (w1 : World) => rowsW_any ha ca aa hn hc cn cc ac (tableS h) h6 x hx w1)
  have HRG := Lib.hid (fun (x E' P : Nat) => rowsW1_gives ha ca aa hn hc cn cc ac h h0 x E' P)
  have c0 := hCk.box.cell (i := 0) rfl
  have c1 := hCk.box.cell (i := 1) rfl
  have c2 := hCk.box.cell (i := 2) rfl
  have c3 := hCk.tx.cell (i := 0) rfl
  have c4 := hCk.com.cell (i := 0) rfl
  have hset := HSETS.out _ hCk.aft.rd
  have hX0 : ∀ k, X k → k < W.heap.size := htop _ _ _ hJ0
  have HV0 : Hid (VwI (.slice ha hn hc) (.slice ca cn cc) aa ac (tableS h) t c E Tb C W.heap.size lp X (W.alloc (.cells #[.func (.yield lp) #[] #[]] 106))) := ⟨hCk, hat0, fun hk => by have := hX0 _ hk; omega⟩
  have HJ00 := Lib.hid (hJ.below hJ0 hb0)
  have HX0 := Lib.hid hX0
  have HJ := Lib.hid hJ
  have HJX := Lib.hid hJx
  have HY := Lib.hid hY
  have HTOP := Lib.hid htop
  have HB0 := Lib.hid hb0
  clear hC hJ hJx hY htop hJ0 hat0 hCk ht hcl h0 hX0 hb0
  refine (callsIn_wide (n := 6)).1 ?_
  refine callsIn_of_wp_marks Tryd.func52 rfl trivial ?_ rfl
  simp only [Tryd.ntmps52, List.size_toArray, List.length_cons, List.length_nil, Nat.reduceAdd, Nat.reduceSub, Array.replicate_succ, Array.replicate_zero, List.push_toArray, List.append_toArray, List.nil_append, List.cons_append]
  gi_wp2_with (refine ⟨trivial, ?_⟩; gi_at_call 53; refine (callsIn_wide.2 hset).mono ?_; rintro e w1 ⟨U, rfl, hb1, hst1⟩)
  generalize W.alloc (.cells #[.func (.yield lp) #[] #[]] 106) = W0 at *
  have hs1 := hb1.size
  rw [hs0] at hst1
  have HST := Lib.hid hst1
  have HJ1 := Lib.hid (HJ.out.below HJ00.out hb1)
  have HV1 := Lib.hid (HV0.out.kept (Kept.below X hb1))
  have HAF0 := Lib.hid HV0.out.cap.aft
  clear hst1 hset c0 c1 c2 c3 c4 HSETS HJ00 HV0
  refine range_e (Enc := EncS) (gf := 58) (lb := #[.pointer (some ⟨U, 0, none⟩), .pointer (some ⟨W.heap.size + 1, 0, none⟩), .pointer (some ⟨W.heap.size + 1 + 1, 0, none⟩), .pointer (some ⟨W.heap.size + 1 + 2, 0, none⟩)]) rfl (enters_of Tryd.func58 (by kernel_rfl) rfl)
    (fun r vs X W h => by rw [h]; rfl) (fun r vs X Y W h _ => h) (HSG.out U (W.heap.size + 1) (W.heap.size + 1 + 1) (W.heap.size + 1 + 2))
    (fun pre Z V => J (pairsL (tableS h) pre) Z V ∧ VwI (.slice ha hn hc) (.slice ca cn cc) aa ac (tableS h) t c E Tb C W.heap.size lp Z V) (fun cd _ Z V => cd = .ret ∧ ∃ q, q <+: pairsW (tableS h) t c ∧ Jx q Z V) X ?hyp ?top ?ownI ?ownX ?start ?round ?done ?stop
  case hyp =>
    intro W1 hb
    refine (((HST.out X (fun k hk => by have := HX0.out k hk; omega) HAF0.out).more (Y := addX X (w1.heap.size + 1)) (fun k hk hz => ?_))).kept (Kept.below _ hb)
    rcases hz with hz | rfl
    · exact hz
    · omega
  case top => exact fun pre Z V hz => HTOP.out _ _ _ hz.1
  case ownI =>
    rintro q Z V V' r ⟨g1, g2⟩ hg hr
    exact ⟨HJ.out _ _ _ _ _ g1 hg (fun x e => ⟨by have := (hr x e).1; omega, (hr x e).2⟩), g2.own hg (fun x e => (hr x e).2)⟩
  case ownX =>
    rintro cd q Z V V' r ⟨g0, p, g1, g2⟩ hg hr
    exact ⟨g0, p, g1, HJX.out _ _ _ _ _ g2 hg (fun x e => ⟨by have := (hr x e).1; omega, (hr x e).2⟩)⟩
  case start => exact ⟨HJ1.out, HV1.out⟩
  case round =>
    rintro l' pre x vs Z V hl1 hl2 hl3 ⟨g1, g2⟩ hTp rfl
    have hxm : x ∈ setsN (afterS (tableS h)) t c := hTp.subset (List.mem_append_right _ (List.mem_singleton.2 rfl))
    have hxc := HSC.out x hxm
    have HPT : Hid (pairsL (tableS h) pre ++ (rowsW (tableS h) x).map (fun r => (x, r)) <+: pairsW (tableS h) t c) := by
      unfold Hid
      rw [HPS.out, ← pairsL_snoc]
      exact pairsL_pre hTp
    have HPN := Lib.hid (pairsL_snoc (tableS h) pre x)
    have HG1 := Lib.hid g1
    have HG2 := Lib.hid g2
    have HZ := Lib.hid (HTOP.out _ _ _ g1)
    clear g1 g2 hTp hxm
    gi_wp2
    have hba : Below V.heap.size V (V.alloc (.cells #[.int .u32 (x : Int)] 23)) := (Below.refl _ V).alloc (Nat.le_refl _) _
    refine ⟨Kept.below Z hba, ?_⟩
    intro V2 hg hnc hlp
    have hsa : (V.alloc (.cells #[.int .u32 (x : Int)] 23)).heap.size = V.heap.size + 1 := by simp
    have hata := At.new V #[.int .u32 (x : Int)] 23
    have hro : ∀ k, some l' = some k → w1.heap.size ≤ k ∧ ∃ o : Obj, (V.alloc (.cells #[.int .u32 (x : Int)] 23)).heap[k]? = some o ∧ o.isCells = false := fun k e => by cases e; exact ⟨hl1, hnc⟩
    have HJ2 := Lib.hid (HJ.out _ _ _ _ _ (HJ.out.below HG1.out hba) hg (fun k e => ⟨by have := (hro k e).1; omega, (hro k e).2⟩))
    have HV2 := Lib.hid ((HG2.out.kept (Kept.below Z hba)).own hg (fun k e => (hro k e).2))
    have HA2 := Lib.hid (at_own hata hg (fun k e => (hro k e).2))
    have hv2s := hg.size
    have HNZ : Hid (¬ Z V.heap.size) := fun hk => by have := HZ.out _ hk; omega
    clear hata hro hg hnc HG1 HG2
    generalize V.alloc (.cells #[.int .u32 (x : Int)] 23) = Va at *
    have c0 := HV2.out.cap.box.cell (i := 0) rfl
    have c1 := HV2.out.cap.box.cell (i := 1) rfl
    have c2 := HV2.out.cap.box.cell (i := 2) rfl
    have c3 := HA2.out.cell (i := 0) rfl
    have hrows := HROWS.out x hxc V2
    gi_wp2_with (refine ⟨trivial, ?_⟩; gi_at_call 54; refine (CallsIn.inRound l' (callsIn_wide.2 hrows)).mono ?_; rintro e V3 ⟨P, rfl, hb3, hrc3⟩)
    have HRC3 := Lib.hid (hrc3 Z (fun k hk => by have := HZ.out k hk; omega) HV2.out.cap.aft)
    have HJ3 := Lib.hid (HJ.out.below HJ2.out hb3)
    have HV3 := Lib.hid (HV2.out.kept (Kept.below Z hb3))
    have HA3 := Lib.hid (HA2.out.below hb3 HA2.out.lt)
    have HK3 : Hid (Kept Z Z V2 V3) := Kept.below Z hb3
    have hl3' : ∃ r0, V3.heap[l']? = some (.loop r0) := by
      obtain ⟨r0, hr0⟩ := hlp
      exact ⟨r0, (hb3.block l' (Array.getElem?_eq_some_iff.1 hr0).1).trans hr0⟩
    have hb3s := hb3.size
    clear hrows hrc3 hb3 c0 c1 c2 c3 hlp HJ2 HV2 HA2
    refine range_ei (Enc := EncR) hl3' (gf := 61) (lb := #[.pointer (some ⟨V2.heap.size, 0, none⟩), .pointer (some ⟨P, 0, none⟩)]) rfl (enters_of Tryd.func61 (by kernel_rfl) rfl)
      (fun r vs X W h => by obtain ⟨v, rfl, _⟩ := h; rfl) (fun r vs X Y W h hy => h.less hy) (HRG.out x V2.heap.size P)
      (fun pre' Z' V' => J (pairsL (tableS h) pre ++ pre'.map (fun r => (x, r))) Z' V' ∧ VwI (.slice ha hn hc) (.slice ca cn cc) aa ac (tableS h) t c E Tb C W.heap.size lp Z' V' ∧ At V' V.heap.size #[.int .u32 (x : Int)] 23 ∧ ¬ Z' V.heap.size ∧ Kept Z Z' V2 V') (fun cd _ Z' V' => (cd = .ret ∧ ∃ q, q <+: pairsW (tableS h) t c ∧ Jx q Z' V') ∧ Kept Z Z' V2 V') Z ?hyp2 ?top2 ?ownI2 ?ownX2 ?start2 ?round2 ?done2 ?stop2
    case hyp2 =>
      intro W1 hb
      refine (HRC3.out.more (Y := addX Z V3.heap.size) (fun k hk hz => ?_)).kept (Kept.below _ hb)
      rcases hz with hz | rfl
      · exact hz
      · omega
    case top2 => exact fun pre Z V hz => HTOP.out _ _ _ hz.1
    case ownI2 =>
      rintro q Z V V' r ⟨g1, g2, g3, g4, g5⟩ hg hr
      exact ⟨HJ.out _ _ _ _ _ g1 hg (fun x e => ⟨by have := (hr x e).1; omega, (hr x e).2⟩), g2.own hg (fun x e => (hr x e).2), at_own g3 hg (fun x e => (hr x e).2), g4, g5.own hg (fun x e => by have := (hr x e).1; omega)⟩
    case ownX2 =>
      rintro cd q Z V V' r ⟨⟨g0, p, g1, g2⟩, g5⟩ hg hr
      exact ⟨⟨g0, p, g1, HJX.out _ _ _ _ _ g2 hg (fun x e => ⟨by have := (hr x e).1; omega, (hr x e).2⟩)⟩, g5.own hg (fun x e => by have := (hr x e).1; omega)⟩
    case start2 => exact ⟨by simpa using HJ3.out, HV3.out, HA3.out, HNZ.out, HK3.out⟩
    case round2 =>
      rintro l2 pre' r vs Z' V4 hm1 hm2 hm3 ⟨g1, g2, g3, g4, g5⟩ hTp ⟨v, rfl, hv1, hv2, hv3⟩
      obtain ⟨va, vc, rfl⟩ := hv1.rd.len
      gi_wp2
      refine ⟨Kept.refl _ _, ?_⟩
      intro V5 hg hnc hlp
      have hro : ∀ k, some l2 = some k → V3.heap.size ≤ k ∧ ∃ o : Obj, V4.heap[k]? = some o ∧ o.isCells = false := fun k e => by cases e; exact ⟨hm1, hnc⟩
      have g1' := HJ.out _ _ _ _ _ g1 hg (fun k e => ⟨by have := (hro k e).1; omega, (hro k e).2⟩)
      have g2' := g2.own hg (fun k e => (hro k e).2)
      have g3' := at_own g3 hg (fun k e => (hro k e).2)
      have g5' := g5.own hg (fun k e => by have := (hro k e).1; omega)
      have hv' := rd_own hv1 hg (fun k e => (hro k e).2)
      have hpp : (pairsL (tableS h) pre ++ pre'.map (fun r => (x, r))) ++ [(x, r)] <+: pairsW (tableS h) t c := by
        refine List.IsPrefix.trans ?_ HPT.out
        rw [List.append_assoc]
        refine (List.prefix_append_right_inj _).2 ?_
        have := hTp.map (fun r => (x, r))
        rwa [List.map_append] at this
      have hpe : (pairsL (tableS h) pre ++ pre'.map (fun r => (x, r))) ++ [(x, r)] = pairsL (tableS h) pre ++ (pre' ++ [r]).map (fun r => (x, r)) := by rw [List.map_append, List.append_assoc]; rfl
      obtain ⟨fn, tmps, assign, body, hy, hRr⟩ := HY.out _ (x, r) _ Z' V5 g1' hpp ⟨_, rfl, hv', hv2, hv3⟩
      have cY := g2'.yl.cell (i := 0) rfl
      have cX := g3'.cell (i := 0) rfl
      have hRw := fun m => round_in l2 (round_depth (m' := m) hRr)
      rw [hpe] at hRw
      have HPP := Lib.hid hpp
      rw [hpe] at HPP
      have HG2 := Lib.hid g2'
      have HG3 := Lib.hid g3'
      have HG5 := Lib.hid g5'
      clear g1 g2 g3 g5 g1' g2' g3' g5' hv' hpp hpe hRr hv1 hv2 hv3 hro hg hnc hlp
      gi_wp2
      refine (hRw _).mono ?_
      rintro e V6 (⟨rfl, Z2, gJ, gk⟩ | ⟨rfl, Z2, gJ, gk⟩)
      · gi_wp2
        exact ⟨Z2, ⟨gJ, HG2.out.kept gk, gk.at HG3.out g4, gk.not HG3.out.lt g4, HG5.out.trans gk⟩, gk⟩
      · gi_wp2
        exact ⟨Z2, ⟨⟨rfl, _, HPP.out, gJ⟩, HG5.out.trans gk⟩, gk⟩
    case done2 =>
      rintro Z' V4 ⟨g1, g2, g3, g4, g5⟩ _
      gi_wp2
      exact ⟨Z', ⟨by rw [HPN.out]; simpa using g1, g2⟩, g5⟩
    case stop2 =>
      rintro cd q Z' V4 hq ⟨⟨rfl, p, hp, g1⟩, g5⟩
      gi_wp2
      exact ⟨Z', ⟨rfl, p, hp, g1⟩, g5⟩
  case done =>
    rintro Z V ⟨g1, g2⟩ hD hdef
    have HG1 : Hid (J (pairsW (tableS h) t c) Z V) := by rw [HPS.out]; exact g1
    clear g1 g2
    gi_wp2
    refine leaves_marks (fun V' => J (pairsW (tableS h) t c) Z V') (fun V' hg => ⟨_, results_none rfl _ _ _, ⟨_, rfl⟩, .inl ⟨Z, hg⟩⟩) [w1.heap.size] V (by simp) (fun D hDm => by rw [List.mem_singleton.1 hDm]; exact hdef) (fun V' D hg hDm hw => ?_) HG1.out
    rw [List.mem_singleton] at hDm
    subst hDm
    exact HJ.out.putObj _ hg (by omega) hw rfl
  case stop =>
    rintro cd q Z V hq ⟨rfl, p, hp, g1⟩ hD hdef
    have HG1 := Lib.hid g1
    have HP := Lib.hid hp
    clear g1 hp
    gi_wp2
    refine leaves_marks (fun V' => Jx p Z V') (fun V' hg => ⟨_, results_none rfl _ _ _, ⟨_, rfl⟩, .inr ⟨p, Z, HP.out, hg⟩⟩) [w1.heap.size] V (by simp) (fun D hDm => by rw [List.mem_singleton.1 hDm]; exact hdef) (fun V' D hg hDm hw => ?_) HG1.out
    rw [List.mem_singleton] at hDm
    subst hDm
    exact HJX.out.putObj _ hg (by omega) hw rfl
end Go.Proofs.YtpjfhdljagkefaaDoor
