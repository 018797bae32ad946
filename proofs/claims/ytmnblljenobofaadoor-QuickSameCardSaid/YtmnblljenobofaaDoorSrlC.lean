/- The walks of package serial's deferred closure, run, Row, Search, Like. -/
import Derived.Test.YtmnblljenobofaaDoorSrlB
import Derived.Recover
import Derived.StillTailTactics
namespace Go.Proofs.YtmnblljenobofaaDoor.WPlain
end Go.Proofs.YtmnblljenobofaaDoor.WPlain
namespace Go.Proofs.YtmnblljenobofaaDoor.QPlain
end Go.Proofs.YtmnblljenobofaaDoor.QPlain
namespace Go.Proofs.YtmnblljenobofaaDoor.RPlain
end Go.Proofs.YtmnblljenobofaaDoor.RPlain
namespace Go.Proofs.YtmnblljenobofaaDoor
open Go.RowKit WPlain QPlain RPlain

theorem wpS_recover {P : Program} {id d : Nat} {t : TypeId} {pos : String} {rest : Code} {Q : Exit → Act → List Frame → World → Prop} {a : Act} {cs cs' : List Frame} {w : World} {v : Value} (h : recoverD cs = some (v, cs'))
    (hk : rest.wpS P Q (a.put (some d) v) cs' w) :
    ((Code.region id #[{ dst := some d, op := Op.call { callee := Callee.builtin Builtin.recover, args := #[], argTypes := #[] }, type := t, pos := pos, after := #[], guard := none }] false).seq rest).wpS P Q a cs w := by
  apply wpS_seq
  apply wpS_region
  simp [wpOpsS, go_sem, h, Exit.thenS]
  exact hk
theorem wpS_recover_no {P : Program} {id d : Nat} {t : TypeId} {pos : String} {rest : Code} {Q : Exit → Act → List Frame → World → Prop} {a : Act} {cs : List Frame} {w : World} (h : recoverD cs = none)
    (hk : rest.wpS P Q (a.put (some d) .nilIface) cs w) :
    ((Code.region id #[{ dst := some d, op := Op.call { callee := Callee.builtin Builtin.recover, args := #[], argTypes := #[] }, type := t, pos := pos, after := #[], guard := none }] false).seq rest).wpS P Q a cs w := by
  apply wpS_seq
  apply wpS_region
  simp [wpOpsS, go_sem, h, Exit.thenS]
  exact hk
theorem wpS_of_wp_k {P : Program} {c : Code} {Q : Exit → Act → List Frame → World → Prop} {a : Act} {cs : List Frame} {w : World}
    (h : ∀ K : Exit → Act → World → Prop, (∀ e a' w', Q e a' cs w' → K e a' w') → c.wp P K a w) : c.wpS P Q a cs w :=
  wpS_of_wp (h _ (fun _ _ _ hq => hq))
theorem not_nilS (W : World) (u : TypeId) (v : Value) : (binOp .eql 20 (.iface u v) .nilIface).run Tryd.prog W = .ok (.bool false) W := by kernel_rfl
theorem is_found (W : World) (v : Value) : (Instr.typeAssert (.iface 77 v) 20 77 true).run Tryd.prog W = .ok (.tuple #[v, .bool true]) W := by kernel_rfl
theorem spent_no (W : World) (v : Value) : (Instr.typeAssert (.iface 79 v) 20 77 true).run Tryd.prog W = .ok (.tuple #[.slice none 0 0, .bool false]) W := by kernel_rfl
theorem is_spent (W : World) (v : Value) : (Instr.typeAssert (.iface 79 v) 20 79 true).run Tryd.prog W = .ok (.tuple #[v, .bool true]) W := by kernel_rfl
def fnd (v c : Nat) (rv : Value) (s : Nat) : Array Value := #[.int .i64 (v : Int), .int .u32 (c : Int), rv, .int .i64 (s : Int)]
theorem fnd_set {w : World} {N v c s v' c' s' : Nat} {rv rv' : Value} {t : TypeId} (h : At w N (fnd v c rv s) t) :
    At ((((w.setCell ⟨N, 0, none⟩ (.int .i64 (v' : Int))).setCell ⟨N, 1, none⟩ (.int .u32 (c' : Int))).setCell ⟨N, 2, none⟩ rv').setCell ⟨N, 3, none⟩ (.int .i64 (s' : Int))) N (fnd v' c' rv' s') t :=
  (((h.set 0 _).set 1 _).set 2 _).set 3 _
theorem fnd_only (w : World) (N : Nat) (x0 x1 x2 x3 : Value) : Only (fun k => k = N) w ((((w.setCell ⟨N, 0, none⟩ x0).setCell ⟨N, 1, none⟩ x1).setCell ⟨N, 2, none⟩ x2).setCell ⟨N, 3, none⟩ x3) :=
  ((((Only.refl (fun k => k = N) w).setCell (p := ⟨N, 0, none⟩) (fun _ => rfl) x0).setCell (p := ⟨N, 1, none⟩) (fun _ => rfl) x1).setCell (p := ⟨N, 2, none⟩) (fun _ => rfl) x2).setCell (p := ⟨N, 3, none⟩) (fun _ => rfl) x3
set_option maxRecDepth 100000 in
theorem end_found (N0 N1 b : Nat) (hv av rv : Value) (who c B s : Nat) (w : World) (hb : At w b (srch hv av who c (B : Int) s) 50) (h0 : At w N0 #[.pointer (some ⟨b, 0, none⟩)] 76)
    (h1 : At w N1 (fnd 0 0 (.slice none 0 0) 0) 26) (hr : ∃ a n c, rv = .slice a n c) :
    CallsD Tryd.prog 34 #[.pointer (some ⟨N0, 0, none⟩), .pointer (some ⟨N1, 0, none⟩)] (.panicking [{ v := .iface 77 rv, recovered := false }]) w fun e u' w' =>
      e = .returned (.tuple #[]) ∧ u' = .panicking [{ v := .iface 77 rv, recovered := true }] ∧ At w' N1 (fnd 0 c rv s) 26 ∧ Only (fun k => k = N1) w w' := by
  refine callsD_of_wpS Tryd.func34 rfl fun c₀ cs hu => ?_
  have p0 : w.cell? ⟨N0, 0, none⟩ = some (.pointer (some ⟨b, 0, none⟩)) := h0.cell rfl
  have p3 : w.cell? ⟨b, 3, none⟩ = some (.int .u32 (c : Int)) := hb.cell rfl
  have p5 : w.cell? ⟨b, 5, none⟩ = some (.int .i64 (s : Int)) := hb.cell rfl
  have q0 : w.cell? ⟨N1, 0, none⟩ = some (.int .i64 0) := h1.cell rfl
  have q1 : w.cell? ⟨N1, 1, none⟩ = some (.int .u32 0) := h1.cell rfl
  have q2 : w.cell? ⟨N1, 2, none⟩ = some (.slice none 0 0) := h1.cell rfl
  have q3 : w.cell? ⟨N1, 3, none⟩ = some (.int .i64 0) := h1.cell rfl
  have f0 : w.frozen? ⟨N1, 0, none⟩ = false := h1.free 0
  have f1 : w.frozen? ⟨N1, 1, none⟩ = false := h1.free 1
  have f2 : w.frozen? ⟨N1, 2, none⟩ = false := h1.free 2
  have f3 : w.frozen? ⟨N1, 3, none⟩ = false := h1.free 3
  obtain ⟨ra, rn, rc, rfl⟩ := hr
  have e0 := not_nilS
  have e1 := is_found
  have H1 := Lib.hid h1
  clear hb h0 h1
  refine wpS_recover (cs' := { c₀ with mode := .panicking [{ v := .iface 77 (.slice ra rn rc), recovered := true }] } :: cs) (v := .iface 77 (.slice ra rn rc)) (by simp [recoverD, hu]) ?_
  refine wpS_of_wp_k fun K hK => ?_
  simp only [Tryd.ntmps34, List.size_toArray, List.length_cons, List.length_nil, Nat.reduceAdd, Nat.reduceSub, Array.replicate_succ,
     Array.replicate_zero, List.push_toArray, List.append_toArray, List.nil_append, List.cons_append, Act.put, List.setIfInBounds_toArray, List.set_cons_succ, List.set_cons_zero]
  go_wp2_with fail
  go_region
  go_wp2_with fail
  exact ⟨rfl, _, rfl, .tuple #[], results_none rfl _ _ _, rfl, rfl, (fnd_set H1.out).drew, (fnd_only _ _ _ _ _ _).drew⟩
set_option maxRecDepth 100000 in
theorem end_spent (N0 N1 b : Nat) (hv av : Value) (who c B s : Nat) (w : World) (hb : At w b (srch hv av who c (B : Int) s) 50) (h0 : At w N0 #[.pointer (some ⟨b, 0, none⟩)] 76)
    (h1 : At w N1 (fnd 0 0 (.slice none 0 0) 0) 26) :
    CallsD Tryd.prog 34 #[.pointer (some ⟨N0, 0, none⟩), .pointer (some ⟨N1, 0, none⟩)] (.panicking [{ v := .iface 79 (.agg #[]), recovered := false }]) w fun e u' w' =>
      e = .returned (.tuple #[]) ∧ u' = .panicking [{ v := .iface 79 (.agg #[]), recovered := true }] ∧ At w' N1 (fnd 2 0 (.slice none 0 0) s) 26 ∧ Only (fun k => k = N1) w w' := by
  refine callsD_of_wpS Tryd.func34 rfl fun c₀ cs hu => ?_
  obtain ⟨w2, hw2⟩ : ∃ w2, w.alloc (.cells #[] 79) = w2 := ⟨_, rfl⟩
  have a0 : At w2 N0 #[.pointer (some ⟨b, 0, none⟩)] 76 := by rw [← hw2]; exact h0.alloc _
  have ab : At w2 b (srch hv av who c (B : Int) s) 50 := by rw [← hw2]; exact hb.alloc _
  have a1 : At w2 N1 (fnd 0 0 (.slice none 0 0) 0) 26 := by rw [← hw2]; exact h1.alloc _
  have HO : Hid (Only (fun k => k = N1) w w2) := by rw [← hw2]; exact (Only.refl _ w).alloc _
  have HW2 := Lib.hid hw2
  have p0 : w2.cell? ⟨N0, 0, none⟩ = some (.pointer (some ⟨b, 0, none⟩)) := a0.cell rfl
  have p5 : w2.cell? ⟨b, 5, none⟩ = some (.int .i64 (s : Int)) := ab.cell rfl
  have q0 : w2.cell? ⟨N1, 0, none⟩ = some (.int .i64 0) := a1.cell rfl
  have q1 : w2.cell? ⟨N1, 1, none⟩ = some (.int .u32 0) := a1.cell rfl
  have q2 : w2.cell? ⟨N1, 2, none⟩ = some (.slice none 0 0) := a1.cell rfl
  have q3 : w2.cell? ⟨N1, 3, none⟩ = some (.int .i64 0) := a1.cell rfl
  have f0 : w2.frozen? ⟨N1, 0, none⟩ = false := a1.free 0
  have f1 : w2.frozen? ⟨N1, 1, none⟩ = false := a1.free 1
  have f2 : w2.frozen? ⟨N1, 2, none⟩ = false := a1.free 2
  have f3 : w2.frozen? ⟨N1, 3, none⟩ = false := a1.free 3
  have e0 := not_nilS
  have e1 := spent_no
  have e2 := is_spent
  have H1 := Lib.hid a1
  clear hb h0 h1 a0 a1 ab
  refine wpS_recover (cs' := { c₀ with mode := .panicking [{ v := .iface 79 (.agg #[]), recovered := true }] } :: cs) (v := .iface 79 (.agg #[])) (by simp [recoverD, hu]) ?_
  refine wpS_of_wp_k fun K hK => ?_
  simp only [Tryd.ntmps34, List.size_toArray, List.length_cons, List.length_nil, Nat.reduceAdd, Nat.reduceSub, Array.replicate_succ,
     Array.replicate_zero, List.push_toArray, List.append_toArray, List.nil_append, List.cons_append, Act.put, List.setIfInBounds_toArray, List.set_cons_succ, List.set_cons_zero]
  go_wp2_with fail
  exact ⟨rfl, _, rfl, .tuple #[], results_none rfl _ _ _, rfl, rfl, fnd_set H1.out, HO.out.trans (fnd_only _ _ _ _ _ _) (fun _ _ h => h)⟩
set_option maxRecDepth 100000 in
theorem end_none (N0 N1 : Nat) (w : World) :
    CallsD Tryd.prog 34 #[.pointer (some ⟨N0, 0, none⟩), .pointer (some ⟨N1, 0, none⟩)] .returning w fun e u' w' =>
      e = .returned (.tuple #[]) ∧ u' = .returning ∧ w' = w := by
  refine callsD_of_wpS Tryd.func34 rfl fun c₀ cs hu => ?_
  refine wpS_recover_no (by simp [recoverD, hu]) ?_
  refine wpS_of_wp_k fun K hK => ?_
  simp only [Tryd.ntmps34, List.size_toArray, List.length_cons, List.length_nil, Nat.reduceAdd, Nat.reduceSub, Array.replicate_succ,
     Array.replicate_zero, List.push_toArray, List.append_toArray, List.nil_append, List.cons_append, Act.put, List.setIfInBounds_toArray, List.set_cons_succ, List.set_cons_zero]
  go_wp2_with fail
  exact ⟨rfl, .returning, by rw [← hu], .tuple #[], results_none rfl _ _ _, rfl, rfl, rfl⟩
theorem capV_nil : CapV (.slice none 0 0) := fun a n c he => by
  simp only [Value.slice.injEq] at he
  omega
/-- what is found, as it lies -/
def fndV (v c : Nat) (rv : Value) (s : Nat) : Value := .agg #[.int .i64 (v : Int), .int .u32 (c : Int), rv, .int .i64 (s : Int)]
structure EnvR (w0 : World) (b : Nat) (hv av : Value) (h : List Ev) (who B : Nat) : Prop where
  kinds : HasK w0
  evs : Evs w0 hv h
  len : h.length ≤ 65536
  ok : (checkS h).2 = 0
  aft : Rd w0 av (u32s (afterS (tableS h)))
  blk : w0.heap.size ≤ b
  who : who < 2 ^ (tableS h).length
  bud : B ≤ 1000000
theorem EnvR.env {w0 : World} {b : Nat} {hv av : Value} {h : List Ev} {who B c : Nat} (E : EnvR w0 b hv av h who B) (hc : c < 4294967296) : Env w0 b hv av h who c B :=
  ⟨E.kinds, E.evs, E.len, E.ok, E.aft, E.blk, E.who, hc, E.bud⟩
set_option maxRecDepth 100000 in
set_option maxHeartbeats 4000000 in
theorem run_any (w0 : World) (b : Nat) (hv av : Value) (h : List Ev) (who B : Nat) (E : EnvR w0 b hv av h who B) (cv : Value) (cs : List Nat) (c0 : Nat) (w : World) (hb : Below w0.heap.size w0 w) (ha : At w b (srch hv av who c0 (B : Int) 0) 50)
    (hr : RdX (fun k => k = b) w cv (u32s cs)) (hcs : ∀ c ∈ cs, c < 4294967296) (hcl : cs.length ≤ 65536) :
    Calls Tryd.prog 17 #[.pointer (some ⟨b, 0, none⟩), cv] w fun e w' => ∃ rv, e = .returned (fndV (searchG B (tableS h) (fun _ => who) cs 0).1 (searchG B (tableS h) (fun _ => who) cs 0).2.1 rv (searchG B (tableS h) (fun _ => who) cs 0).2.2.2) ∧
      RdX (fun k => k < w.heap.size) w' rv (nats (searchG B (tableS h) (fun _ => who) cs 0).2.2.1) ∧ CapV rv ∧ Only (fun k => k = b) w w' := by
  have h6 := table_six E.ok
  obtain ⟨x0, hx0⟩ : ∃ x0, searchG B (tableS h) (fun _ => who) cs 0 = x0 := ⟨_, rfl⟩
  rw [hx0]
  have HZ : Hid (searchG B (tableS h) (fun _ => who) (cs.drop 0) 0 = x0) := hx0
  have HNX : Hid (∀ i (hi : i < cs.length) s, searchG B (tableS h) (fun _ => who) (cs.drop i) s = if (fromS B (tableS h) who cs[i] ((tableS h).length + 1) [] s).1 = 1 then searchG B (tableS h) (fun _ => who) (cs.drop (i + 1)) (fromS B (tableS h) who cs[i] ((tableS h).length + 1) [] s).2.2
      else ((fromS B (tableS h) who cs[i] ((tableS h).length + 1) [] s).1, (if (fromS B (tableS h) who cs[i] ((tableS h).length + 1) [] s).1 = 0 then cs[i] else 0), (fromS B (tableS h) who cs[i] ((tableS h).length + 1) [] s).2)) := fun i hi s => by
    rw [List.drop_eq_getElem_cons hi, searchG]
  have HEND : Hid (∀ s, searchG B (tableS h) (fun _ => who) (cs.drop cs.length) s = (1, 0, [], s)) := fun s => by rw [List.drop_length]; rfl
  have HE := Lib.hid E
  have HB := Lib.hid hb
  have HA := Lib.hid ha
  have HR := Lib.hid hr
  have HCS := Lib.hid hcs
  have hb0 := ha.lt
  have hmf : ∀ (fn : Fn) (first cap : Array Value) (w : World), (Instr.makeFunc fn first cap).run Tryd.prog w = .ok (.func fn first cap) w := fun _ _ _ _ => rfl
  obtain ⟨ca, cc, rfl⟩ := hr.rd.len
  rw [u32s_len] at HR ⊢
  clear hx0 hr hb ha hcs E
  obtain ⟨N0, hN0⟩ : ∃ N0, w.heap.size = N0 := ⟨_, rfl⟩
  obtain ⟨w1, hw1⟩ : ∃ w1, (w.alloc (.cells #[.pointer (some ⟨b, 0, none⟩)] 76)).alloc (.cells #[.int .i64 0, .int .u32 0, .slice none 0 0, .int .i64 0] 26) = w1 := ⟨_, rfl⟩
  have HA0 : Hid (At w1 N0 #[.pointer (some ⟨b, 0, none⟩)] 76) := by
    rw [← hw1, ← hN0]
    exact (At.new w _ _).alloc _
  have HA1 : Hid (At w1 (N0 + 1) (fnd 0 0 (.slice none 0 0) 0) 26) := by
    rw [← hw1, ← hN0]
    have := At.new (w.alloc (.cells #[.pointer (some ⟨b, 0, none⟩)] 76)) #[.int .i64 0, .int .u32 0, .slice none 0 0, .int .i64 0] 26
    rwa [World.size_alloc] at this
  have HW1 : Hid (Below w.heap.size w w1) := by
    rw [← hw1]
    exact ((Below.refl _ w).alloc (Nat.le_refl _) _).alloc (by simp) _
  have HAB := Lib.hid (HA.out.below HW1.out hb0)
  have HRB := Lib.hid (HR.out.below HW1.out)
  have HB1 := Lib.hid (HB.out.trans (HW1.out.mono HB.out.size))
  have hb1 : b < N0 := by omega
  have HX3 : Hid (∀ w3, Only (fun k => k = b) w1 w3 → ∀ k, k < w1.heap.size → k < w3.heap.size) := fun w3 ho k hk => Nat.lt_of_lt_of_le hk ho.size
  go_enter_defers Tryd.func17, Tryd.ntmps17
  go_wp2_with fail
  clear hw1 HA HB HR
  go_loopw [8] (fun x wr => ∃ i c s : Nat, i ≤ cs.length ∧ x = .int .i64 i ∧ s ≤ B ∧ Hid (searchG B (tableS h) (fun _ => who) (cs.drop i) s = x0) ∧ Hid (At wr b (srch hv av who c (B : Int) s) 50) ∧ Hid (Only (fun k => k = b) w1 wr)) (fun x _ => cs.length - (intOf x).toNat)
  case atStart => exact ⟨0, c0, 0, by omega, rfl, by omega, HZ, HAB, Only.refl _ _⟩
  case round =>
    clear HAB HZ
    obtain ⟨i, c, s, hi, rfl, hs, HT, HA, HO⟩ := hrel
    have a0 := HA0.out.only HO.out (by omega)
    have p0 : wr.cell? ⟨N0, 0, none⟩ = some (.pointer (some ⟨b, 0, none⟩)) := a0.cell rfl
    have p5 : wr.cell? ⟨b, 5, none⟩ = some (.int .i64 (s : Int)) := HA.out.cell rfl
    by_cases hlt : i < cs.length
    · have p3 : wr.cell? ⟨b, 3, none⟩ = some (.int .u32 (c : Int)) := HA.out.cell rfl
      have f3 : wr.frozen? ⟨b, 3, none⟩ = false := HA.out.free 3
      have hrr := (HRB.out.only HO.out (fun _ h => h)).rd
      obtain ⟨zb, zo, zc, hze, hzl, hzcs⟩ := hrr.opened (by rw [u32s_len]; omega)
      rw [u32s_len] at hze
      simp only [Value.slice.injEq] at hze
      obtain ⟨rfl, -, rfl⟩ := hze
      have hcx := hzcs i _ (u32s_get hlt)
      have hcc := HCS.out _ (List.getElem_mem hlt)
      have hnx := HNX.out i hlt s
      clear hrr hzcs hzl a0
      generalize cs[i] = ci at *
      go_wp2_with fail
      go_region
      have HA2 : Hid (At (wr.setCell ⟨b, 3, none⟩ (.int .u32 (ci : Int))).drew b (srch hv av who ci (B : Int) s) 50) := HA.out.set 3 _
      have HO2 : Hid (Only (fun k => k = b) w1 (wr.setCell ⟨b, 3, none⟩ (.int .u32 (ci : Int))).drew) := (HO.out.setCell (fun _ => rfl) _).drew
      clear p0 p5 p3 f3 hcx HA HO
      generalize (wr.setCell ⟨b, 3, none⟩ (.int .u32 (ci : Int))).drew = w2 at *
      have p0 : w2.cell? ⟨N0, 0, none⟩ = some (.pointer (some ⟨b, 0, none⟩)) := (HA0.out.only HO2.out (by omega)).cell rfl
      have p2 : w2.cell? ⟨b, 2, none⟩ = some (.int .u32 (who : Int)) := HA2.out.cell rfl
      go_upto_region 5 with fail
      go_still_tail 5, (by kernel_rfl)
      change wpList _ _ _ _ _ w2.drew
      have HA3 : Hid (At w2.drew b (srch hv av who ci (B : Int) s) 50) := HA2.out
      have HO3 : Hid (Only (fun k => k = b) w1 w2.drew) := HO2.out.drew
      clear p0 p2 HA2 HO2
      generalize w2.drew = w3 at *
      have HGO := Lib.hid (goOn_any w0 b hv av h who ci B (HE.out.env hcc) (fun k => k < w1.heap.size) (by have := HA1.out.lt; omega) ((tableS h).length + 1) [] s (.slice none 0 0) w3 (HX3.out _ HO3.out) (HB1.out.trans (HO3.out.below HB1.out.size (fun k _ hk => by have := HE.out.blk; omega))) HA3.out (.inl ⟨rfl, _, _, rfl⟩) (.inl rfl) capV_nil List.nodup_nil (by simp) hs (by have := left_le (tableS h) who []; omega))
      have HANS := Lib.hid (from_ans (B := B) (l := tableS h) (who := who) (c := ci) ((tableS h).length + 1) [] s hs (by have := left_le (tableS h) who []; omega))
      have HT2 := HT.out
      rw [hnx] at HT2
      obtain ⟨x, hx⟩ : ∃ x, fromS B (tableS h) who ci ((tableS h).length + 1) [] s = x := ⟨_, rfl⟩
      rw [hx] at HGO HANS HT2
      have HT3 := Lib.hid HT2
      have HL0 : Hid (leftW who [] = who) := rfl
      rw [HL0.out] at HGO
      clear HT2 HT hx hnx HA3 HL0
      go_wp2_with fail
      refine HGO.out.mono ?_
      rintro e w4 ⟨hend, ha4, ho4⟩
      have HA4 := Lib.hid ha4
      have HO4 := Lib.hid (HO3.out.trans ho4 (fun _ _ hf => hf))
      clear ha4 ho4 HGO HO3
      rcases hend with ⟨h1, rfl⟩ | ⟨h1, v4, rfl, hr4, hc4⟩ | ⟨h1, rfl⟩
      · have HT4 := HT3.out
        rw [if_pos h1] at HT4
        have HT5 := Lib.hid HT4
        have hle := HANS.out.le
        clear HT4 HT3 h1 HANS
        go_wp2_with fail
        go_roundw
        case rel => exact ⟨i + 1, ci, x.2.2, by omega, by go_num, hle, HT5, HA4, HO4⟩
        case measure => simp [intOf]; omega
      · have HT4 := HT3.out
        rw [if_neg (by omega), if_pos h1] at HT4
        subst HT4
        go_wp2_with fail
        refine leaves_cons (f := 34) (args := #[.pointer (some ⟨N0, 0, none⟩), .pointer (some ⟨N0 + 1, 0, none⟩)]) (by simp) (by simp [go_sem]) ?_
        refine (end_found N0 (N0 + 1) b hv av v4 who ci B x.2.2 w4 HA4.out (HA0.out.only HO4.out (by omega)) (HA1.out.only HO4.out (by omega)) (by obtain ⟨a, c, he⟩ := hr4.rd.len; exact ⟨a, _, c, he⟩)).mono ?_
        rintro e u' w5 ⟨rfl, rfl, hat, hon⟩
        have q0 : w5.cell? ⟨N0 + 1, 0, none⟩ = some (.int .i64 0) := hat.cell rfl
        have q1 : w5.cell? ⟨N0 + 1, 1, none⟩ = some (.int .u32 (ci : Int)) := hat.cell rfl
        have q2 : w5.cell? ⟨N0 + 1, 2, none⟩ = some v4 := hat.cell rfl
        have q3 : w5.cell? ⟨N0 + 1, 3, none⟩ = some (.int .i64 (x.2.2 : Int)) := hat.cell rfl
        have HO5 : Hid (Only (fun k => k = b) w w5) := (((Only.of_below (s := fun k => k = b) HW1.out).trans HO4.out (fun _ _ h => h)).trans hon (fun k hk he => by omega))
        have HR5 := Lib.hid ((hr4.only hon (fun k hk => by rw [hk]; exact HA1.out.lt)).less (Y := fun k => k < N0) (fun k hk => by have := HW1.out.size; omega))
        have HC4 := Lib.hid hc4
        clear hat hon hr4 hc4
        simp [Leaves, settle, results, Tryd.results17, go_sem, q0, q1, q2, q3]
        exact ⟨_, rfl, HR5.out, HC4.out, HO5.out⟩
      · have HT4 := HT3.out
        rw [if_neg (by omega), if_neg (by omega)] at HT4
        subst HT4
        go_wp2_with fail
        refine leaves_cons (f := 34) (args := #[.pointer (some ⟨N0, 0, none⟩), .pointer (some ⟨N0 + 1, 0, none⟩)]) (by simp) (by simp [go_sem]) ?_
        refine (end_spent N0 (N0 + 1) b hv av who ci B x.2.2 w4 HA4.out (HA0.out.only HO4.out (by omega)) (HA1.out.only HO4.out (by omega))).mono ?_
        rintro e u' w5 ⟨rfl, rfl, hat, hon⟩
        have q0 : w5.cell? ⟨N0 + 1, 0, none⟩ = some (.int .i64 2) := hat.cell rfl
        have q1 : w5.cell? ⟨N0 + 1, 1, none⟩ = some (.int .u32 0) := hat.cell rfl
        have q2 : w5.cell? ⟨N0 + 1, 2, none⟩ = some (.slice none 0 0) := hat.cell rfl
        have q3 : w5.cell? ⟨N0 + 1, 3, none⟩ = some (.int .i64 (x.2.2 : Int)) := hat.cell rfl
        have HO5 : Hid (Only (fun k => k = b) w w5) := (((Only.of_below (s := fun k => k = b) HW1.out).trans HO4.out (fun _ _ h => h)).trans hon (fun k hk he => by omega))
        clear hat hon
        simp [Leaves, settle, results, Tryd.results17, go_sem, q0, q1, q2, q3]
        exact ⟨_, rfl, .inl ⟨by rw [HANS.out.none (by omega)]; rfl, _, _, rfl⟩, capV_nil, HO5.out⟩
    · obtain rfl : i = cs.length := by omega
      have HT2 := HT.out
      rw [HEND.out] at HT2
      subst HT2
      have a1 := HA1.out.only HO.out (by omega)
      have q0 : wr.cell? ⟨N0 + 1, 0, none⟩ = some (.int .i64 0) := a1.cell rfl
      have q1 : wr.cell? ⟨N0 + 1, 1, none⟩ = some (.int .u32 0) := a1.cell rfl
      have q2 : wr.cell? ⟨N0 + 1, 2, none⟩ = some (.slice none 0 0) := a1.cell rfl
      have q3 : wr.cell? ⟨N0 + 1, 3, none⟩ = some (.int .i64 0) := a1.cell rfl
      have f0 : wr.frozen? ⟨N0 + 1, 0, none⟩ = false := a1.free 0
      have f1 : wr.frozen? ⟨N0 + 1, 1, none⟩ = false := a1.free 1
      have f2 : wr.frozen? ⟨N0 + 1, 2, none⟩ = false := a1.free 2
      have f3 : wr.frozen? ⟨N0 + 1, 3, none⟩ = false := a1.free 3
      have H1 := Lib.hid a1
      have HAT : Hid (At ((((wr.setCell ⟨N0 + 1, 0, none⟩ (.int .i64 1)).setCell ⟨N0 + 1, 1, none⟩ (.int .u32 0)).setCell ⟨N0 + 1, 2, none⟩ (.slice none 0 0)).setCell ⟨N0 + 1, 3, none⟩ (.int .i64 (s : Int))) (N0 + 1) (fnd 1 0 (.slice none 0 0) s) 26) := fnd_set (v' := 1) (c' := 0) a1
      have HON := Lib.hid (fnd_only wr (N0 + 1) (.int .i64 1) (.int .u32 0) (.slice none 0 0) (.int .i64 (s : Int)))
      clear a0 a1
      go_wp2_with fail
      generalize (((wr.setCell ⟨N0 + 1, 0, none⟩ (.int .i64 1)).setCell ⟨N0 + 1, 1, none⟩ (.int .u32 0)).setCell ⟨N0 + 1, 2, none⟩ (.slice none 0 0)).setCell ⟨N0 + 1, 3, none⟩ (.int .i64 (s : Int)) = w5 at *
      refine leaves_cons (f := 34) (args := #[.pointer (some ⟨N0, 0, none⟩), .pointer (some ⟨N0 + 1, 0, none⟩)]) (by simp) (by simp [go_sem]) ?_
      refine (end_none N0 (N0 + 1) w5).mono ?_
      rintro e u' w6 ⟨rfl, rfl, rfl⟩
      have hat := HAT.out
      clear q0 q1 q2 q3
      have q0 : w6.cell? ⟨N0 + 1, 0, none⟩ = some (.int .i64 1) := hat.cell rfl
      have q1 : w6.cell? ⟨N0 + 1, 1, none⟩ = some (.int .u32 0) := hat.cell rfl
      have q2 : w6.cell? ⟨N0 + 1, 2, none⟩ = some (.slice none 0 0) := hat.cell rfl
      have q3 : w6.cell? ⟨N0 + 1, 3, none⟩ = some (.int .i64 (s : Int)) := hat.cell rfl
      have HO5 : Hid (Only (fun k => k = b) w w6) := (((Only.of_below (s := fun k => k = b) HW1.out).trans HO.out (fun _ _ h => h)).trans HON.out (fun k hk he => by omega))
      clear hat
      simp [Leaves, settle, results, Tryd.results17, go_sem, q0, q1, q2, q3]
      exact ⟨_, rfl, .inl ⟨rfl, _, _, rfl⟩, capV_nil, HO5.out⟩
end Go.Proofs.YtmnblljenobofaaDoor
