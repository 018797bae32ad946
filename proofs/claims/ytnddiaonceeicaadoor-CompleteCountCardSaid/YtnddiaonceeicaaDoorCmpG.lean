/- The walks of the reference's end and Complete. -/
import Derived.Test.YtnddiaonceeicaaDoorCmpE
import Derived.Test.YtnddiaonceeicaaDoorCmpF
import Derived.Test.YtnddiaonceeicaaDoorMg12
import Derived.Test.YtnddiaonceeicaaDoorTabJ
import Derived.Deep.RegionHeldLaw
namespace Go.Proofs.YtnddiaonceeicaaDoor.WPlain
end Go.Proofs.YtnddiaonceeicaaDoor.WPlain
namespace Go.Proofs.YtnddiaonceeicaaDoor.QPlain
end Go.Proofs.YtnddiaonceeicaaDoor.QPlain
namespace Go.Proofs.YtnddiaonceeicaaDoor.RPlain
end Go.Proofs.YtnddiaonceeicaaDoor.RPlain
namespace Go.Proofs.YtnddiaonceeicaaDoor
open Go.RowKit WPlain QPlain RPlain

/-- the reference's end of a transaction -/
def endR (n s last : Int) (b : Bool) : List Ev := if s = 1 ∧ b = true then [⟨7, n, 0, 0⟩] else if last = 1 ∨ last = 3 ∨ last = 5 then [⟨8, n, 0, 0⟩, ⟨9, n, 0, 0⟩] else [⟨9, n, 0, 0⟩]
theorem endR_len (n s last : Int) (b : Bool) : (endR n s last b).length ≤ 2 := by
  unfold endR
  split
  · simp
  · split <;> simp
theorem endR_endS {h : List Ev} {t : Int} (hs : stateS (lastOf h t) < 2) (b : Bool) : endR t (stateS (lastOf h t)) (lastOf h t) b = endS h t b := by
  unfold endR endS
  generalize lastOf h t = k at *
  unfold stateS at *
  by_cases h7 : k = 7
  · subst h7; simp at hs
  · by_cases h9 : k = 9
    · subst h9; simp at hs
    · by_cases h6 : k = 6
      · subst h6; simp
      · simp [h7, h9, h6]
theorem endS_done {h : List Ev} {t : Int} (hs : ¬ stateS (lastOf h t) < 2) (b : Bool) : endS h t b = [] := by
  unfold endS
  generalize lastOf h t = k at *
  unfold stateS at hs
  by_cases h7 : k = 7
  · simp [h7]
  · by_cases h9 : k = 9
    · simp [h9]
    · by_cases h6 : k = 6
      · subst h6; simp at hs
      · simp [h7, h9, h6] at hs
set_option maxRecDepth 100000 in
set_option maxHeartbeats 1000000 in
theorem refEnd_any (n f l s last : Int) (ua : Option Addr) (un uc : Nat) (b : Bool) (w : World) :
    Calls Tryd.prog 33 #[.agg #[.int .i64 n, .int .i64 f, .int .i64 l, .int .i64 s, .slice ua un uc], .int .i64 last, .bool b] w fun e w' => ∃ v', e = .returned v' ∧ Evs w' v' (endR n s last b) ∧ Src v' ∧ Below w.heap.size w w' := by
  have hb := fun (o1 o2 o3 : Obj) => (((Below.refl w.heap.size w).alloc (Nat.le_refl _) o1).alloc (by simp) o2).alloc (by simp; omega) o3
  have hE : ∀ (o1 o2 : Obj) (L : List Ev), Evs (((w.alloc o1).alloc o2).alloc (.cells (evsCells L).toArray 54)) (.slice (some ⟨w.heap.size + 1 + 1, 0, none⟩) L.length L.length) L := fun o1 o2 L => by
    have h := evs_at L.length L (At.new ((w.alloc o1).alloc o2) (evsCells L).toArray 54)
    simp only [World.size_alloc] at h
    exact h
  by_cases h1 : s = 1 ∧ b = true
  · have he : endR n s last b = [⟨7, n, 0, 0⟩] := by unfold endR; rw [if_pos h1]
    rw [he]
    obtain ⟨rfl, rfl⟩ := h1
    clear he
    go_enter Tryd.func33, Tryd.ntmps33
    go_wp2
    go_ret
    exact ⟨_, rfl, hE _ _ [⟨7, n, 0, 0⟩], .inr ⟨_, _, _, rfl⟩, hb _ _ _⟩
  · have hx : ∀ c : Bool, c = decide (last = 1 ∨ last = 3 ∨ last = 5) → endR n s last b = if c = true then [⟨8, n, 0, 0⟩, ⟨9, n, 0, 0⟩] else [⟨9, n, 0, 0⟩] := fun c hc => by
      unfold endR
      rw [if_neg h1, hc]
      by_cases h5 : last = 1 ∨ last = 3 ∨ last = 5
      · rw [if_pos h5, if_pos (by simpa using h5)]
      · rw [if_neg h5, if_neg (by simpa using h5)]
    have tq : s = 1 → b = false := fun hs => by cases b with | false => rfl | true => exact absurd ⟨hs, rfl⟩ h1
    by_cases h5 : last = 1 ∨ last = 3 ∨ last = 5
    · rw [hx true (by simpa using h5), if_pos rfl]
      have t1 : s ≠ 1 → ((s : Int) == 1) = false := fun h => by simp [h]
      clear hx h1
      by_cases hs : s = 1
      · obtain rfl := tq hs
        subst hs
        clear tq t1
        rcases h5 with rfl | rfl | rfl
        all_goals
          go_enter Tryd.func33, Tryd.ntmps33
          go_wp2
          go_ret
          exact ⟨_, rfl, hE _ _ [⟨8, n, 0, 0⟩, ⟨9, n, 0, 0⟩], .inr ⟨_, _, _, rfl⟩, hb _ _ _⟩
      · have t2 := t1 hs
        clear tq t1 hs
        rcases h5 with rfl | rfl | rfl
        all_goals
          go_enter Tryd.func33, Tryd.ntmps33
          go_wp2
          go_ret
          exact ⟨_, rfl, hE _ _ [⟨8, n, 0, 0⟩, ⟨9, n, 0, 0⟩], .inr ⟨_, _, _, rfl⟩, hb _ _ _⟩
    · rw [hx false (by simpa using h5), if_neg (by decide)]
      have t1 : s ≠ 1 → ((s : Int) == 1) = false := fun h => by simp [h]
      have u1 : ((last : Int) == 1) = false := by simp; omega
      have u3 : ((last : Int) == 3) = false := by simp; omega
      have u5 : ((last : Int) == 5) = false := by simp; omega
      clear hx h1 h5
      by_cases hs : s = 1
      · obtain rfl := tq hs
        subst hs
        clear tq t1
        go_enter Tryd.func33, Tryd.ntmps33
        go_wp2
        go_ret
        exact ⟨_, rfl, hE _ _ [⟨9, n, 0, 0⟩], .inr ⟨_, _, _, rfl⟩, hb _ _ _⟩
      · have t2 := t1 hs
        clear tq t1 hs
        go_enter Tryd.func33, Tryd.ntmps33
        go_wp2
        go_ret
        exact ⟨_, rfl, hE _ _ [⟨9, n, 0, 0⟩], .inr ⟨_, _, _, rfl⟩, hb _ _ _⟩
/-- transactions whose rows are all the call's own -/
def TOwn (B : Nat) (w : World) (v : Value) (l : List Tx) : Prop := ∃ ps : List (Tx × Value), ps.map (·.1) = l ∧ w.ownsRow B 46 5 v ps.length (ps.flatMap txC) ∧ Own B w ps
theorem TOwn.txs {B : Nat} {w : World} {v : Value} {l : List Tx} (h : TOwn B w v l) : Txs w v l := by
  obtain ⟨ps, rfl, h2, h3⟩ := h
  exact ⟨ps, rfl, Rws.of_row txC_len h2, fun p hp => Opv.of_row (h3 p hp)⟩
theorem TOwn.later {B : Nat} {w w' : World} {v : Value} {l : List Tx} (h : TOwn B w v l) (hb : Below w.heap.size w w') : TOwn B w' v l := by
  obtain ⟨ps, h1, h2, h3⟩ := h
  exact ⟨ps, h1, row_belowT h2 hb, fun p hp => row_belowT (h3 p hp) hb⟩
theorem TOwn.mono {B B' : Nat} {w : World} {v : Value} {l : List Tx} (h : TOwn B w v l) (hb : B' ≤ B) : TOwn B' w v l := by
  obtain ⟨ps, h1, h2, h3⟩ := h
  exact ⟨ps, h1, own_monoT h2 hb, fun p hp => own_monoT (h3 p hp) hb⟩
theorem TOwn.kept {B D : Nat} {w w' : World} {v ve : Value} {l : List Tx} {n : Nat} {xs : List Value} (h : TOwn B w v l) (he : w.ownsRow D 54 4 ve n xs) (hg : w.grownBy w' ve.ownBlock) : TOwn B w' v l := by
  obtain ⟨ps, h1, h2, h3⟩ := h
  exact ⟨ps, h1, h2.kept hg (row_apart h2 he (by decide)), fun p hp => (h3 p hp).kept hg (row_apart (h3 p hp) he (by decide))⟩
theorem step_append_evC {ops : Array Oper} {o : Oper} {a : Act} {w : World} {K : Act → World → Prop} {Q : Exit → Act → World → Prop} {E : Prop}
    (hg : o.guard = none) (s x : Operand) (ho : o.op = Op.call { callee := Callee.builtin Builtin.append, args := #[s, x], argTypes := #[22, 22] })
    (base : Nat) (v : Value) (n : Nat) (xs : List Value) (hs : a.eval s = v) (hown : w.ownsRow base 54 4 v n xs)
    (v2 : Value) (h : List Ev) (hx : a.eval x = v2) (hv : Evs w v2 h) (hsrc : Src v2) (h63 : n + h.length ≤ 65536) (hbase : base ≤ w.heap.size)
    (hK : ∀ v' w', w'.ownsRow base 54 4 v' (n + h.length) (xs ++ evsCells h) → w.grownBy w' v.ownBlock → K (a.put o.dst v') w') :
    if Region.wanted o (yielded ops a.tmps) = true then Oper.wp Tryd.prog o a w K Q else E := by
  have hw : Region.wanted o (yielded ops a.tmps) = true := by simp [Region.wanted, hg]
  rw [if_pos hw]
  obtain ⟨j0, hj0, hy0, hy1', hy2'⟩ := info_parts info54
  rcases hsrc with rfl | ⟨ad, m, c, rfl⟩
  · have h0 : h = [] := List.length_eq_zero_iff.1 hv.length.symm
    subst h0
    have hrest := hK v w (by simpa [evsCells] using hown) ⟨rfl, rfl, rfl, Nat.le_refl _, fun _ _ _ => rfl⟩
    have hrun := run_append_owned_none (P := Tryd.prog) (w := w) base 22 o.type 54 j0 4 Tryd.underlying22 hj0 v n xs hown
    unfold Oper.wp execOp
    simp only [ho, resolve, invoke, builtin, Sem.run_bind, Sem.run_pure, Result.andThen_ok, List.map_toArray, List.map_cons, List.map_nil, hs, hx, hrun]
    exact hrest
  · obtain rfl := hv.length
    refine wp_append_own w s x 22 ho base 54 j0 _ 4 32 Tryd.underlying22 hj0 hy0 hy1' hy2' rfl (by decide) v n xs hs hown ad h.length c (evsCells h) hx (evsCells_len h) hv.cells (evs_oneCell h) (by unfold maxLen; omega) (by omega) hbase ?_
    intro v' w' h2 h3 _
    exact hK v' w' h2 h3
theorem own_turnedC {w : World} {B : Nat} {e : TypeId} {z : Nat} {v : Value} {n : Nat} {xs : List Value} (h : w.ownsRow B e z v n xs) {k : Nat} (hk : v.ownBlock = some k) : B ≤ k := (own_base h hk).1
set_option maxRecDepth 100000 in
set_option maxHeartbeats 4000000 in
theorem refComplete_any (v : Value) (h : List Ev) (n : Nat) (w : World) (hv : Evs w v h) (hs : Src v) (hcap : ∀ a n c, v = .slice a n c → n ≤ c) (hn : n < 4294967296) (h0 : (checkS h).2 = 0) :
    Calls Tryd.prog 14 #[v, .int .u32 (n : Int)] w fun e w' => ∃ v', e = .returned v' ∧ Evs w' v' (completeS h n) ∧ Below w.heap.size w w' := by
  have h60 : h.length ≤ 60 := (right_evs (check_agree h0).1).1
  have HV := Lib.hid hv
  have HS := Lib.hid hs
  obtain ⟨a, c, rfl⟩ := hv.len
  have HCP := Lib.hid hcap
  have HTB := Lib.hid (fun (W : World) (hW : Below w.heap.size w W) => refTableO_any _ h W (hv.below hW (Nat.le_refl _)) (by omega) hcap)
  have h6 := table_six h0
  have HN6 : Hid ((namesOf h).length ≤ 6) := by unfold Hid; rw [← tableS_len]; exact h6
  have HLA : Hid (∀ t ∈ namesOf h, ∃ l : Nat, lstOf h t = (l : Int) ∧ ∃ hl : l < h.length, h[l].k = lastOf h t) := fun t ht => last_at h t ht
  have HTS : Hid (∀ i (hi : i < (tableS h).length), ∃ hj : i < (namesOf h).length, (tableS h)[i] = txOf h (namesOf h)[i]) := fun i hi => ⟨by rw [tableS_len] at hi; exact hi, tableS_get (by rw [tableS_len] at hi; exact hi)⟩
  have HTL := Lib.hid (tableS_len h)
  have HTK := Lib.hid (fun (j : Nat) (hj : j < (namesOf h).length) => tailG_take h n hj)
  have HFE : Hid (completeS h n = h ++ tailG h n 0 ((namesOf h).take (namesOf h).length)) := by unfold Hid completeS; rw [List.take_length]
  have HTG := Lib.hid (fun (j : Nat) => Nat.le_trans (tailG_len h n ((namesOf h).take j) 0) (Nat.mul_le_mul_left 2 (List.length_take_le' j (namesOf h))))
  have HTX := Lib.hid (fun (t : Int) => (show (txOf h t).n = t ∧ (txOf h t).l = lstOf h t ∧ (txOf h t).s = stateS (lastOf h t) from ⟨rfl, rfl, rfl⟩))
  have HYS := Lib.hid (fun (t : Int) (hs : stateS (lastOf h t) < 2) (b : Bool) => endR_endS hs b)
  have HNO := Lib.hid (fun (t : Int) (hs : ¬ stateS (lastOf h t) < 2) (b : Bool) => endS_done hs b)
  have HR0 := Lib.hid (World.ownsRow_made (size := 4) (e := 54) (base := w.heap.size) w #[] 0 (Nat.le_refl _) (by unfold maxLen; omega) rfl)
  have HB0 := Lib.hid ((Below.refl w.heap.size w).alloc (Nat.le_refl _) (.cells #[] 54))
  have HV0 : Hid (Evs (w.alloc (.cells #[] 54)) (.slice a h.length c) h) := hv.below HB0.out (Nat.le_refl _)
  generalize completeS h n = G at *
  generalize tableS h = l at *
  generalize namesOf h = ns at *
  clear h0 hv hs hcap
  go_enter Tryd.func14, Tryd.ntmps14
  go_wp2_with (at_builtin; refine wpList_append_src rfl _ _ rfl w.heap.size _ _ _ rfl HR0.out _ h rfl HV0.out HS.out (by omega) (by simp) ?_)
  intro v1 w1 h1 hg1
  have HB1 : Hid (Below w.heap.size w w1) := HB0.out.grown hg1 (by simp) (fun k hk => by simp [Value.ownBlock] at hk; omega)
  have HR1 : Hid (w1.ownsRow w.heap.size 54 4 v1 (h ++ tailG h n 0 (ns.take 0)).length (evsCells (h ++ tailG h n 0 (ns.take 0)))) := by unfold Hid; rw [List.take_zero]; unfold tailG; rw [List.append_nil]; simpa using h1
  clear h1 hg1 HV0 HR0 HB0
  have HTB1 := Lib.hid (HTB.out w1 HB1.out)
  go_wp2_with fail
  refine HTB1.out.mono ?_
  rintro e w2 ⟨v2, ps, rfl, p1, p2, p3, hb2⟩
  have HO2 : Hid (TOwn w.heap.size w2 v2 l) := TOwn.mono ⟨ps, p1, p2, p3⟩ HB1.out.size
  have HR2 := Lib.hid (row_belowT HR1.out hb2)
  have HB2 := Lib.hid (HB1.out.trans (hb2.mono HB1.out.size))
  obtain ⟨a2, c2, rfl⟩ := HO2.out.txs.len
  clear p1 p2 p3 hb2 HTB1 HTB HR1 HB1
  go_wp2_with fail
  go_loopw [5, 15] (fun y x wr => ∃ j : Nat, j ≤ l.length ∧ x = .int .i64 j ∧ Hid (wr.ownsRow w.heap.size 54 4 y (h ++ tailG h n 0 (ns.take j)).length (evsCells (h ++ tailG h n 0 (ns.take j)))) ∧ Hid (TOwn w.heap.size wr (.slice a2 l.length c2) l) ∧ Hid (Below w.heap.size w wr)) (fun _ x _ => l.length - (intOf x).toNat)
  case atStart => exact ⟨0, by omega, rfl, HR2, HO2, HB2⟩
  case round =>
    clear HR2 HO2 HB2
    obtain ⟨j, hj, rfl, HR, HO, HB⟩ := hrel
    by_cases hlt : j < l.length
    · obtain ⟨hjn, htx⟩ := HTS.out j hlt
      have HTJ := Lib.hid (HTK.out j hjn)
      have hTA := HTG.out j
      have hn6 := HN6.out
      obtain ⟨H, hH⟩ : ∃ H, h ++ tailG h n 0 (ns.take j) = H := ⟨_, rfl⟩
      have hHl : H.length ≤ 72 := by rw [← hH, List.length_append]; omega
      have HNX : Hid (h ++ tailG h n 0 (ns.take (j + 1)) = H ++ endS h ns[j] (n.testBit j)) := by
        unfold Hid
        rw [HTJ.out, ← List.append_assoc, hH]
      rw [hH] at HR
      clear hH HTJ hTA hn6
      obtain ⟨l0, hl1, hl2, hl3⟩ := HLA.out ns[j] (List.getElem_mem hjn)
      have hT := HO.out.txs
      obtain ⟨b, o, c', he⟩ := hT.opened (by omega)
      simp only [Value.slice.injEq] at he
      obtain ⟨rfl, -, rfl⟩ := he
      obtain ⟨u, x0, x1, x2, x3, x4, q⟩ := hT.get j hlt
      obtain ⟨ua, uc, rfl, -⟩ := q.len
      rw [htx, (HTX.out ns[j]).1] at x0
      rw [htx, (HTX.out ns[j]).2.1, hl1] at x2
      rw [htx, (HTX.out ns[j]).2.2] at x3
      have HY1 := Lib.hid (HYS.out ns[j])
      have HN1 := Lib.hid (HNO.out ns[j])
      have hE := HV.out
      rcases hE with ⟨e0, _⟩ | ⟨_, eb, eo, ec, he, hebl, hec⟩
      · rw [e0] at hl2; simp at hl2
      · simp only [Value.slice.injEq] at he
        obtain ⟨rfl, -, rfl⟩ := he
        obtain ⟨d0, -, -, -⟩ := hec l0 hl2
        rw [hl3] at d0
        have HEB : Hid (eb < w.heap.size) := hebl
        replace d0 := (HB.out.cell (p := ⟨eb, eo + l0 * 4, none⟩) hebl).trans d0
        replace hebl := Nat.lt_of_lt_of_le hebl HB.out.size
        clear hl1 hl3 hec htx hT
        generalize lastOf h ns[j] = kk at *
        generalize ns[j] = t at *
        generalize l[j] = X at *
        obtain ⟨ss, hss⟩ : ∃ ss, stateS kk = ss := ⟨_, rfl⟩
        rw [hss] at x3 HY1 HN1
        clear hss
        have HBA := Lib.hid (HB.out.alloc HB.out.size (.cells #[.int .i64 t, .int .i64 X.f, .int .i64 (l0 : Int), .int .i64 ss, .slice ua X.o.length uc] 46))
        have hba := (Below.refl wr.heap.size wr).alloc (Nat.le_refl _) (.cells #[.int .i64 t, .int .i64 X.f, .int .i64 (l0 : Int), .int .i64 ss, .slice ua X.o.length uc] 46)
        have HNA := Lib.hid (At.new wr #[.int .i64 t, .int .i64 X.f, .int .i64 (l0 : Int), .int .i64 ss, .slice ua X.o.length uc] 46)
        have HRA := Lib.hid (row_belowT HR.out hba)
        have HOA := Lib.hid (HO.out.later hba)
        have hdA := hba.cell (p := ⟨eb, eo + l0 * 4, none⟩) hebl
        rw [d0] at hdA
        obtain ⟨va, vc, rfl⟩ := row_slice HR.out
        have y3 := HNA.out.cell (i := 3) (v := .int .i64 ss) rfl
        clear hba HR HB HO
        by_cases hss : ss < 2
        · have HNX2 : Hid (h ++ tailG h n 0 (ns.take (j + 1)) = H ++ endR t ss kk (n.testBit j)) := by unfold Hid; rw [HNX.out, HY1.out hss]
          have tq : decide (ss < 2) = true := by simp [hss]
          clear HY1 HN1 HNX hss
          go_upto_region 7 with fail
          generalize wr.alloc (.cells #[.int .i64 t, .int .i64 X.f, .int .i64 (l0 : Int), .int .i64 ss, .slice ua X.o.length uc] 46) = wA at *
          generalize wr.heap.size = N at *
          have hNl := HNA.out.lt
          have hel := cell_lt hdA
          have g0 := HNA.out.cell (i := 0) (v := .int .i64 t) rfl
          have g1 := HNA.out.cell (i := 1) (v := .int .i64 X.f) rfl
          have g2 := HNA.out.cell (i := 2) (v := .int .i64 (l0 : Int)) rfl
          have g3 := HNA.out.cell (i := 3) (v := .int .i64 ss) rfl
          have g4 := HNA.out.cell (i := 4) (v := .slice ua X.o.length uc) rfl
          have HSC : Hid (∀ W, Below wA.heap.size wA W → (W.cell? ⟨N, 0, none⟩ = some (.int .i64 t) ∧ W.cell? ⟨N, 1, none⟩ = some (.int .i64 X.f) ∧ W.cell? ⟨N, 2, none⟩ = some (.int .i64 (l0 : Int)) ∧ W.cell? ⟨N, 3, none⟩ = some (.int .i64 ss) ∧ W.cell? ⟨N, 4, none⟩ = some (.slice ua X.o.length uc)) ∧ W.cell? ⟨eb, eo + l0 * 4, none⟩ = some (.int .i64 kk)) := fun W hW =>
            ⟨⟨(hW.cell (p := ⟨N, 0, none⟩) hNl).trans g0, (hW.cell (p := ⟨N, 1, none⟩) hNl).trans g1, (hW.cell (p := ⟨N, 2, none⟩) hNl).trans g2, (hW.cell (p := ⟨N, 3, none⟩) hNl).trans g3, (hW.cell (p := ⟨N, 4, none⟩) hNl).trans g4⟩, (hW.cell (p := ⟨eb, eo + l0 * 4, none⟩) hel).trans hdA⟩
          have HS6 : Hid (∀ (W W' : World) (nn : Nat) (ve : Value) (xs : List Value), Below wA.heap.size wA W → W.ownsRow w.heap.size 54 4 ve nn xs → W.grownBy W' ve.ownBlock → (W'.cell? ⟨N, 0, none⟩ = some (.int .i64 t) ∧ W'.cell? ⟨N, 1, none⟩ = some (.int .i64 X.f) ∧ W'.cell? ⟨N, 2, none⟩ = some (.int .i64 (l0 : Int)) ∧ W'.cell? ⟨N, 3, none⟩ = some (.int .i64 ss) ∧ W'.cell? ⟨N, 4, none⟩ = some (.slice ua X.o.length uc)) ∧ W'.cell? ⟨eb, eo + l0 * 4, none⟩ = some (.int .i64 kk)) := fun W W' nn ve xs hW hr hg => by
            have hN : some N ≠ ve.ownBlock := fun hk => row_not hr (HNA.out.below hW hNl) (by decide) hk.symm
            have hEb : some eb ≠ ve.ownBlock := fun hk => by have h1 := (own_base hr hk.symm).1; have h2 := HEB.out; omega
            obtain ⟨⟨k0, k1, k2, k3, k4⟩, k5⟩ := HSC.out W hW
            exact ⟨⟨hg.cell k0 hN, hg.cell k1 hN, hg.cell k2 hN, hg.cell k3 hN, hg.cell k4 hN⟩, hg.cell k5 hEb⟩
          have hkb := refBit9_any n j hn (by omega)
          have hrl := endR_len t ss kk (n.testBit j)
          generalize n.testBit j = bb at *
          clear g0 g1 g2 g3 g4 hdA x0 x1 x2 x3 x4 d0 y3 tq
          have HNE : Hid (eb < wA.heap.size ∧ N < wA.heap.size) := ⟨hel, hNl⟩
          clear hel hNl
          first
          | go_must (go_region_held_law (fun w' => (w'.cell? ⟨N, 0, none⟩ = some (.int .i64 t) ∧ w'.cell? ⟨N, 1, none⟩ = some (.int .i64 X.f) ∧ w'.cell? ⟨N, 2, none⟩ = some (.int .i64 (l0 : Int)) ∧ w'.cell? ⟨N, 3, none⟩ = some (.int .i64 ss) ∧ w'.cell? ⟨N, 4, none⟩ = some (.slice ua X.o.length uc)) ∧ w'.cell? ⟨eb, eo + l0 * 4, none⟩ = some (.int .i64 kk))
              (first | exact HS6.out _ _ _ _ _ hb5 hr5 hg6 | exact HSC.out _ hb5 | exact HSC.out _ (below_drP _))
              (first
                | (go_at_call 32; refine (hkb _).mono ?_; rintro e w4 ⟨rfl, rfl⟩)
                | (go_at_call 33; refine (refEnd_any t X.f (l0 : Int) ss kk ua X.o.length uc bb _).mono ?_; rintro e w5 ⟨v5, rfl, he5, hs5, hb⟩; have hb5 := below_stpP hb; have hr5 := row_belowT HRA.out hb5; have ho5 := HOA.out.later hb5; have hz5 := Nat.le_trans HBA.out.size hb5.size; have h63 : H.length + (endR t ss kk bb).length ≤ 65536 := by omega)
                | (refine step_append_evC rfl _ _ rfl w.heap.size (.slice va H.length vc) H.length (evsCells H) rfl hr5 v5 (endR t ss kk bb) rfl he5 hs5 h63 hz5 ?_; intro v6 w6 h6 hg6; have hb6 : Below w.heap.size w w6 := (HBA.out.trans (hb5.mono HBA.out.size)).grown hg6 hz5 (fun kb hkb => own_turnedC hr5 hkb))))
          | fail
          all_goals
            have HR9 : Hid (w6.ownsRow w.heap.size 54 4 v6 (H ++ endR t ss kk bb).length (evsCells (H ++ endR t ss kk bb))) := by
              have hap : evsCells (H ++ endR t ss kk bb) = evsCells H ++ evsCells (endR t ss kk bb) := List.flatMap_append ..
              unfold Hid
              rw [hap, List.length_append]
              exact h6
            have HO9 := Lib.hid (ho5.kept hr5 hg6)
            have HB9 := Lib.hid hb6
            clear h6 hg6 hb6 ho5 hr5 he5 hs5
            go_wp2
            go_roundw
            case rel => exact ⟨j + 1, by omega, by go_num, by rw [HNX2.out]; exact HR9, HO9, HB9⟩
            case measure => simp [intOf]; omega
        · have HNX2 : Hid (h ++ tailG h n 0 (ns.take (j + 1)) = H) := by unfold Hid; rw [HNX.out, HN1.out (by omega), List.append_nil]
          have tq : decide (ss < 2) = false := by simp; omega
          clear HY1 HN1 HNX hss
          go_wp2
          go_roundw
          case rel => exact ⟨j + 1, by omega, by go_num, by rw [HNX2.out]; exact HRA, HOA, HBA⟩
          case measure => simp [intOf]; omega
    · obtain rfl : j = l.length := by omega
      rw [HTL.out, ← HFE.out] at HR
      obtain ⟨va, vc, rfl⟩ := row_slice HR.out
      go_wp2
      go_ret
      exact ⟨_, rfl, Evs.of_row HR.out, HB.out⟩
end Go.Proofs.YtnddiaonceeicaaDoor
