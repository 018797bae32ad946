/- Merged: UnqC, UnqD, UnqE, UnqH. -/
import Derived.Test.YtmnblljenobofaaDoorMg14
import Derived.Test.YtmnblljenobofaaDoorExtC
import Derived.Test.YtmnblljenobofaaDoorMg9
import Derived.Test.YtmnblljenobofaaDoorLegC
import Derived.Test.YtmnblljenobofaaDoorTabF
import Derived.Test.YtmnblljenobofaaDoorMg12
import Derived.Test.YtmnblljenobofaaDoorMg5
import Derived.DeepKeys4
import Derived.WideKeyPair
import Derived.BigQuiet
/- A map of the call's own, keyed by a variable and a value, of who wrote what; rows of numbers, each a row of the call's own. -/
namespace Go.Proofs.YtmnblljenobofaaDoor.WPlain
end Go.Proofs.YtmnblljenobofaaDoor.WPlain
namespace Go.Proofs.YtmnblljenobofaaDoor.QPlain
end Go.Proofs.YtmnblljenobofaaDoor.QPlain
namespace Go.Proofs.YtmnblljenobofaaDoor.RPlain
end Go.Proofs.YtmnblljenobofaaDoor.RPlain
namespace Go.Proofs.YtmnblljenobofaaDoor
open Go.RowKit WPlain QPlain RPlain
open Go.Maps (Keyed)

/-- the key of a variable and a value; how it reads -/
def keyV (v x : Int) : Value := .agg #[.int .i64 v, .int .i64 x]
def keyL (v x : Int) : Lit := .string (keyBytes [.int .i64 v, .int .i64 x])
theorem laidOutW : laidOutB Tryd.prog = true := by kernel_rfl
theorem rowW : (116 : TypeId) < (Tryd.prog).types.size := of_decide_eq_true (by kernel_rfl)
theorem wideW : (match (Tryd.prog).underlying 116 with | some (.array _ _) | some (.struct _) => true | _ => false) = true := by kernel_rfl
set_option maxRecDepth 100000 in
theorem writtenK : Keyed Tryd.prog 116 := Keyed.of_law (deep_law_laid laidOutW (m := 2) (by omega) rowW (by kernel_rfl) wideW)
theorem keyTypeW : (Tryd.prog).keyType 116 = true := by kernel_rfl
theorem cellsW : (Tryd.prog).cellsOf 116 = 2 := by kernel_rfl
theorem cellsI : (Tryd.prog).cellsOf 3 = 1 := by kernel_rfl
set_option maxRecDepth 100000 in
theorem key_written {v x : Int} (hv : (Lit.int .i64 v).wf = true) (hx : (Lit.int .i64 x).wf = true) : keyOf Tryd.prog 116 (keyV v x) = some (keyL v x) := by
  obtain ⟨m, hm⟩ : ∃ m, (Tryd.prog).types.size = m + 1 := Nat.exists_eq_add_one_of_ne_zero (Nat.ne_of_gt (Nat.lt_of_le_of_lt (Nat.zero_le _) rowW))
  unfold keyOf keyL keyV
  simp only [Tryd.underlying116]
  rw [if_pos (by simp [keyTypeW, Value.formed, Tryd.underlying116, cellsW]), hm]
  unfold Program.keyLits
  simp only [Tryd.underlying116, Value.cells]
  rw [if_pos (by constructor; · rw [cellsW]; rfl
                 · simp)]
  simp [cellsI, Program.keyLits, Tryd.underlying3, hv, hx]
theorem keyL_inj {v x v' x' : Int} (hv : (Lit.int .i64 v).wf = true) (hx : (Lit.int .i64 x).wf = true) (hv' : (Lit.int .i64 v').wf = true) (hx' : (Lit.int .i64 x').wf = true) (h : keyL v x = keyL v' x') : v = v' ∧ x = x' := by
  have h1 := writtenK.inj (key_written hv hx) (h ▸ key_written hv' hx')
  simpa [keyV] using h1
/-- block M is a map that holds what S tells -/
def WMap (w : World) (M k : Nat) (S : Wrt) : Prop := ∃ D, w.ownsMap Tryd.prog 116 intE M k D ∧ ∀ v x : Int, (Lit.int .i64 v).wf = true → (Lit.int .i64 x).wf = true →
  (∀ t : Nat, S v x = some t → Maps.has D (keyL v x) = true ∧ ∀ z, D.atKey (keyL v x) z = .lit (.int .i64 (t : Int))) ∧ (S v x = none → Maps.has D (keyL v x) = false)
section
variable {w w' : World} {M k : Nat} {S : Wrt}
theorem WMap.start (w : World) : WMap (w.alloc (.map #[] 0)) w.heap.size 0 noneW := ⟨.map [], World.ownsMap_made w _ _ _, fun _ _ _ _ => ⟨fun _ h => (by cases h), fun _ => rfl⟩⟩
theorem WMap.lt (h : WMap w M k S) : M < w.heap.size := by obtain ⟨D, ho, _⟩ := h; exact ho.lt
theorem WMap.mono (h : WMap w M k S) {n : Nat} (hn : k ≤ n) : WMap w M n S := by obtain ⟨D, ho, hd⟩ := h; exact ⟨D, ho.mono hn, hd⟩
theorem WMap.below (h : WMap w M k S) (hb : Below w.heap.size w w') : WMap w' M k S := by
  obtain ⟨D, ho, hd⟩ := h
  exact ⟨D, ownsMap_below ho hb ho.lt, hd⟩
theorem WMap.kept (h : WMap w M k S) {r : Option Nat} (hg : w.grownBy w' r) (hne : some M ≠ r) : WMap w' M k S := by
  obtain ⟨D, ho, hd⟩ := h
  exact ⟨D, ho.kept hg hne, hd⟩
/-- what a look tells: who, and whether it is there -/
def lookV : Option Nat → Value
  | some t => .tuple #[.int .i64 (t : Int), .bool true]
  | none => .tuple #[.int .i64 0, .bool false]
theorem WMap.look (h : WMap w M k S) {v x : Int} (hv : (Lit.int .i64 v).wf = true) (hx : (Lit.int .i64 x).wf = true) :
    (Instr.lookup 69 (.map (some M)) (.agg #[.int .i64 v, .int .i64 x]) true).run Tryd.prog w = .ok (lookV (S v x)) w := by
  obtain ⟨D, ho, hd⟩ := h
  obtain ⟨u, ps, hr, hu⟩ := ho.look_ok writtenK Tryd.underlying69 (zeroI w) (zd := .lit (.int .i64 0)) (zp := []) rfl (key_written hv hx)
  cases hs : S v x with
  | some t =>
    have h1 := (hd v x hv hx).1 t hs
    rw [h1.1] at hr
    rw [h1.2] at hu
    rw [intE_inv hu] at hr
    exact hr
  | none =>
    have h1 := (hd v x hv hx).2 hs
    rw [h1] at hr
    rw [Maps.atKey_of_not_has h1] at hu
    rw [intE_inv hu] at hr
    exact hr
theorem WMap.set (h : WMap w M k S) (t : Nat) {o : Rwo} (hv : (Lit.int .i64 o.v).wf = true) (hx : (Lit.int .i64 o.x).wf = true) (hk : k ≤ 65536) :
    ∃ w', (Instr.mapUpdate 69 (.map (some M)) (.agg #[.int .i64 o.v, .int .i64 o.x]) (.int .i64 (t : Int))).run Tryd.prog w = .ok () w' ∧ WMap w' M (k + 1) (putW t S o) ∧ w.grownBy w' (some M) := by
  obtain ⟨D, ho, hd⟩ := h
  obtain ⟨w', hr, ho', hg⟩ := ho.update writtenK Tryd.underlying69 (by unfold maxLen; omega) (key_written hv hx) (show intE (.int .i64 (t : Int)) = some (.lit (.int .i64 (t : Int)), []) from rfl)
  refine ⟨w', hr, ⟨_, ho', fun u y hu hy => ?_⟩, hg⟩
  unfold putW
  by_cases he : u = o.v ∧ y = o.x
  · obtain ⟨rfl, rfl⟩ := he
    rw [if_pos ⟨rfl, rfl⟩]
    refine ⟨fun t' ht => ?_, fun hn => (by cases hn)⟩
    rw [← Option.some.inj ht]
    exact ⟨Maps.has_put_same ho.isMap (writtenK.key (key_written hv hx)) _, fun z => Maps.atKey_put_same ho.isMap (writtenK.key (key_written hv hx)) _ _⟩
  · rw [if_neg he]
    have hkne : keyL u y ≠ keyL o.v o.x := fun hc => he (keyL_inj hu hy hv hx hc)
    exact ⟨fun t' ht => ⟨(Maps.has_put_other hkne _).trans ((hd u y hu hy).1 t' ht).1, fun z => (Maps.atKey_put_other hkne _ _).trans (((hd u y hu hy).1 t' ht).2 z)⟩, fun hn => (Maps.has_put_other hkne _).trans ((hd u y hu hy).2 hn)⟩
end
/-- rows of numbers, each a row of the call's own -/
def RowsI (B : Nat) (w : World) (vs : List Value) (rows : List (List Int)) : Prop :=
  vs.length = rows.length ∧ ∀ i (hi : i < rows.length) (h : i < vs.length), w.ownsRow B 3 1 vs[i] rows[i].length (ints rows[i])
theorem RowsI.below {B : Nat} {w w' : World} {vs : List Value} {rows : List (List Int)} (h : RowsI B w vs rows) (hb : Below w.heap.size w w') : RowsI B w' vs rows :=
  ⟨h.1, fun i hi hi' => (h.2 i hi hi').kept (grownB11 hb) (by cases (vs[i]).ownBlock <;> simp)⟩
theorem RowsI.grown {B B2 : Nat} {w w' : World} {vs us : List Value} {rows : List (List Int)} {z : Value} {n : Nat} (h : RowsI B w vs rows) (hz : w.ownsRow B2 24 1 z n us) (hg : w.grownBy w' z.ownBlock) : RowsI B w' vs rows :=
  ⟨h.1, fun i hi hi' => (h.2 i hi hi').kept hg (row_apart (h.2 i hi hi') hz (by decide))⟩
theorem RowsI.nil (B : Nat) (w : World) : RowsI B w [] [] := ⟨rfl, fun i hi => by simp at hi⟩
theorem RowsI.snoc {B : Nat} {w : World} {vs : List Value} {rows : List (List Int)} {v : Value} {r : List Int} (h : RowsI B w vs rows) (hv : w.ownsRow B 3 1 v r.length (ints r)) : RowsI B w (vs ++ [v]) (rows ++ [r]) := by
  obtain ⟨h1, h2⟩ := h
  refine ⟨by simp [h1], fun i hi hi' => ?_⟩
  by_cases hlt : i < rows.length
  · simp only [List.getElem_append_left hlt, List.getElem_append_left (show i < vs.length by omega)]
    exact h2 i hlt (by omega)
  · obtain rfl : i = rows.length := by simp at hi; omega
    have e1 : (rows ++ [r])[rows.length] = r := by simp
    have e2 : (vs ++ [v])[rows.length]'hi' = v := by simp [← h1]
    rw [e1, e2]
    exact hv
theorem RowsI.get {B : Nat} {w : World} {vs : List Value} {rows : List (List Int)} (h : RowsI B w vs rows) {i : Nat} (hi : i < rows.length) : ∃ a c, vs[i]? = some (.slice a rows[i].length c) ∧ w.ownsRow B 3 1 (.slice a rows[i].length c) rows[i].length (ints rows[i]) := by
  have hi' : i < vs.length := by rw [h.1]; exact hi
  have h2 := h.2 i hi hi'
  obtain ⟨a, c, he⟩ := row_slice h2
  refine ⟨a, c, by rw [List.getElem?_eq_getElem hi', he], ?_⟩
  rw [← he]
  exact h2
/-- a slice value reads as rows of numbers -/
def Rows2 (w : World) (v : Value) (rows : List (List Int)) : Prop := ∃ vs, Rd w v vs ∧ RowsI 0 w vs rows
theorem Rows2.below {w w' : World} {v : Value} {rows : List (List Int)} (h : Rows2 w v rows) (hb : Below w.heap.size w w') : Rows2 w' v rows := by
  obtain ⟨vs, h1, h2⟩ := h
  exact ⟨vs, h1.below hb (Nat.le_refl _), h2.below hb⟩
theorem Rows2.nil (w : World) : Rows2 w (.slice none 0 0) [] := ⟨[], Rd.of_row (World.ownsRow_nil (base := 0) (e := 24) (size := 1) w), RowsI.nil _ _⟩
theorem Rows2.len {w : World} {v : Value} {rows : List (List Int)} (h : Rows2 w v rows) : ∃ a c, v = .slice a rows.length c := by
  obtain ⟨vs, h1, h2, _⟩ := h
  rw [← h2]
  exact h1.len
theorem Rows2.get {w : World} {a : Option Addr} {n c : Nat} {rows : List (List Int)} (h : Rows2 w (.slice a n c) rows) (i : Nat) (hi : i < rows.length) :
    ∃ b o ra rc, a = some ⟨b, o, none⟩ ∧ b < w.heap.size ∧ w.cell? ⟨b, o + i, none⟩ = some (.slice ra rows[i].length rc) ∧ Rd w (.slice ra rows[i].length rc) (ints rows[i]) := by
  obtain ⟨vs, h1, h2⟩ := h
  obtain ⟨b, o, c', he, hb, hc⟩ := h1.opened (by rw [h2.1]; omega)
  obtain ⟨ra, rc, hg, hr⟩ := h2.get hi
  simp only [Value.slice.injEq] at he
  obtain ⟨rfl, -, -⟩ := he
  exact ⟨b, o, ra, rc, rfl, hb, hc i _ hg, Rd.of_row hr⟩
/-- cells stay while a map's entries turn -/
theorem cell_turned {w w' : World} {M k : Nat} {S : Wrt} (hm : WMap w M k S) (ho : Only (fun b => b = M) w w') {p : Addr} {u : Value} (h : w.cell? p = some u) : w'.cell? p = some u := by
  obtain ⟨D, ⟨es, clock, hh, _⟩, _⟩ := hm
  have hlt := World.block_lt_of_cell? w _ h
  have hne : ¬ p.block = M := by
    intro hc
    rw [← hc] at hh
    unfold World.cell? at h
    rw [hh] at h
    cases h
  unfold World.cell? at h ⊢
  rw [ho.block p.block hlt hne]
  exact h
theorem Rws.turned {α : Type} {z : Nat} {f : α → List Value} {w w' : World} {M k : Nat} {S : Wrt} (hm : WMap w M k S) (ho : Only (fun b => b = M) w w') {v : Value} {l : List α} (h : Rws z f w v l) : Rws z f w' v l := by
  rcases h with h0 | ⟨h0, b, o, c, rfl, hlt, hc⟩
  · exact .inl h0
  · exact .inr ⟨h0, b, o, c, rfl, Nat.lt_of_lt_of_le hlt ho.size, fun i hi j u hj hu => cell_turned hm ho (hc i hi j u hj hu)⟩
theorem Opv.turned {w w' : World} {M k : Nat} {S : Wrt} (hm : WMap w M k S) (ho : Only (fun b => b = M) w w') {v : Value} {l : List Rwo} (h : Opv w v l) : Opv w' v l := ⟨Rws.turned hm ho h.1, h.2⟩
theorem Txs.turned {w w' : World} {M k : Nat} {S : Wrt} (hm : WMap w M k S) (ho : Only (fun b => b = M) w w') {v : Value} {l : List Tx} (h : Txs w v l) : Txs w' v l := by
  obtain ⟨ps, h1, h2, h3⟩ := h
  exact ⟨ps, h1, Rws.turned hm ho h2, fun p hp => Opv.turned hm ho (h3 p hp)⟩
end Go.Proofs.YtmnblljenobofaaDoor
/- The walks of package unique's sourceOf and addWrites. -/
namespace Go.Proofs.YtmnblljenobofaaDoor.WPlain
end Go.Proofs.YtmnblljenobofaaDoor.WPlain
namespace Go.Proofs.YtmnblljenobofaaDoor.QPlain
end Go.Proofs.YtmnblljenobofaaDoor.QPlain
namespace Go.Proofs.YtmnblljenobofaaDoor.RPlain
end Go.Proofs.YtmnblljenobofaaDoor.RPlain
namespace Go.Proofs.YtmnblljenobofaaDoor
open Go.RowKit WPlain QPlain RPlain

set_option maxRecDepth 100000 in
theorem sourceOf_any (t : Nat) (o : Rwo) (M k : Nat) (S : Wrt) (w : World) (hm : WMap w M k S) (hv : (Lit.int .i64 o.v).wf = true) (hx : (Lit.int .i64 o.x).wf = true) :
    Calls Tryd.prog 93 #[.int .i64 (t : Int), .agg #[.bool o.w, .int .i64 o.v, .int .i64 o.x], .map (some M)] w fun e w' => e = .returned (.int .i64 (readW S t o)) ∧ Below w.heap.size w w' := by
  have hb0 : Below w.heap.size w (w.alloc (.cells #[.bool o.w, .int .i64 o.v, .int .i64 o.x] 89)) := (Below.refl _ w).alloc (Nat.le_refl _) _
  have q1 := (hm.below hb0).look hv hx
  unfold readW
  clear hm hv hx
  by_cases h0 : o.x = 0
  · have t0 : ((o.x : Int) == 0) = true := by simp [h0]
    rw [if_pos h0]
    clear q1 h0
    go_enter Tryd.func93, Tryd.ntmps93
    go_wp2
    go_ret
    exact ⟨rfl, hb0⟩
  · have t0 : ((o.x : Int) == 0) = false := by simp [h0]
    rw [if_neg h0]
    cases hs : S o.v o.x with
    | none =>
      rw [hs] at q1
      unfold lookV at q1
      clear hs h0
      go_enter Tryd.func93, Tryd.ntmps93
      go_wp2
      go_ret
      exact ⟨rfl, hb0⟩
    | some y =>
      rw [hs] at q1
      unfold lookV at q1
      dsimp only
      clear hs h0
      by_cases he : y = t
      · subst he
        rw [if_pos rfl]
        have te : ((y : Int) == (y : Int)) = true := by simp
        go_enter Tryd.func93, Tryd.ntmps93
        go_wp2
        go_ret
        exact ⟨rfl, hb0⟩
      · rw [if_neg he]
        have te : ((y : Int) == (t : Int)) = false := by simp; omega
        go_enter Tryd.func93, Tryd.ntmps93
        go_wp2
        go_ret
        exact ⟨rfl, hb0⟩
theorem addsW_drop {t : Nat} {ops : List Rwo} {k : Nat} (hk : k < ops.length) (S : Wrt) : addsW t (ops.drop k) S = if ops[k].w = true then (if badW t S ops[k] = true then none else addsW t (ops.drop (k + 1)) (putW t S ops[k])) else addsW t (ops.drop (k + 1)) S := by
  rw [List.drop_eq_getElem_cons hk]
  rfl
set_option maxRecDepth 100000 in
set_option maxHeartbeats 4000000 in
theorem addWrites_any (t M k0 : Nat) (v : Value) (ops : List Rwo) (S : Wrt) (w : World) (hm : WMap w M k0 S) (ho : Opv w v ops) (hok : ∀ o ∈ ops, (Lit.int .i64 o.v).wf = true ∧ (Lit.int .i64 o.x).wf = true) (hk : k0 + ops.length ≤ 60000) :
    Calls Tryd.prog 44 #[.map (some M), .int .i64 (t : Int), v] w fun e w' => e = .returned (.bool (addsW t ops S).isSome) ∧ Only (fun b => b = M) w w' ∧ (∀ S', addsW t ops S = some S' → WMap w' M (k0 + ops.length) S') := by
  obtain ⟨oa, oc, rfl, hoc⟩ := ho.len
  have HO := Lib.hid ho
  have HM0 := Lib.hid hm
  have HOK := Lib.hid hok
  have HD := Lib.hid (fun (k : Nat) (hk : k < ops.length) (S : Wrt) => addsW_drop (t := t) hk S)
  have HR0 : Hid (addsW t (ops.drop 0) S = addsW t ops S) := rfl
  obtain ⟨R, hR⟩ : ∃ R, addsW t ops S = R := ⟨_, rfl⟩
  rw [hR] at HR0 ⊢
  have HE0 := Lib.hid (Only.refl (fun b => b = M) w)
  clear ho hm hok hR
  go_enter Tryd.func44, Tryd.ntmps44
  go_wp2_with fail
  go_loopw [14] (fun x wr => ∃ k : Nat, k ≤ ops.length ∧ x = .int .i64 k ∧ (∃ S', Hid (WMap wr M (k0 + k) S') ∧ Hid (addsW t (ops.drop k) S' = R)) ∧ Hid (Only (fun b => b = M) w wr)) (fun x _ => ops.length - (intOf x).toNat)
  case atStart => exact ⟨0, by omega, rfl, ⟨S, HM0, HR0⟩, HE0⟩
  case round =>
    obtain ⟨k, hkl, rfl, ⟨S', HM, HR⟩, HE⟩ := hrel
    by_cases hlt : k < ops.length
    · obtain ⟨b, o, rfl, hbl, c0, c1, c2⟩ := Opv.at (Opv.turned HM0.out HE.out HO.out) k hlt
      have hwf := HOK.out _ (List.getElem_mem hlt)
      have hdr := HD.out k hlt S'
      rw [HR.out] at hdr
      clear HM0 HR0 HE0 HR
      generalize ops[k] = O at *
      obtain ⟨ow, ov, ox⟩ := O
      dsimp only at *
      have HWF := Lib.hid hwf
      have hba : Below wr.heap.size wr (wr.alloc (.cells #[.bool ow, .int .i64 ov, .int .i64 ox] 89)) := (Below.refl _ wr).alloc (Nat.le_refl _) _
      have HE1 := Lib.hid (HE.out.alloc (.cells #[.bool ow, .int .i64 ov, .int .i64 ox] 89))
      have HM1 := Lib.hid (HM.out.below hba)
      cases ow with
      | false =>
        rw [if_neg (by simp)] at hdr
        have HD1 := Lib.hid hdr.symm
        have HMM := Lib.hid (HM1.out.mono (show k0 + k ≤ k0 + (k + 1) by omega))
        clear hdr HM HE hba hwf
        go_wp2
        go_roundw
        case rel => exact ⟨k + 1, by omega, by go_num, ⟨S', HMM, HD1⟩, HE1⟩
        case measure => simp [intOf]; omega
      | true =>
        rw [if_pos rfl] at hdr
        have hbb : Below (wr.alloc (.cells #[.bool true, .int .i64 ov, .int .i64 ox] 89)).heap.size (wr.alloc (.cells #[.bool true, .int .i64 ov, .int .i64 ox] 89)) ((wr.alloc (.cells #[.bool true, .int .i64 ov, .int .i64 ox] 89)).alloc (.cells #[.int .i64 ov, .int .i64 ox] 116)) := (Below.refl _ _).alloc (Nat.le_refl _) _
        have HM2 := Lib.hid (HM1.out.below hbb)
        have HE2 := Lib.hid (HE1.out.alloc (.cells #[.int .i64 ov, .int .i64 ox] 116))
        have q1 := HM2.out.look hwf.1 hwf.2
        obtain ⟨w3, q2, hm3, hg3⟩ := HM2.out.set t (o := ⟨true, ov, ox⟩) hwf.1 hwf.2 (by omega)
        dsimp only at q2
        have HM3 := Lib.hid hm3
        have HE3 := Lib.hid (HE2.out.grown hg3 (fun _ _ he => (Option.some.inj he).symm))
        clear hba hbb HM HE HM1 HE1 hm3 hg3 hwf
        by_cases h0 : ox = 0
        · have t0 : ((ox : Int) == 0) = true := by simp [h0]
          have hb : badW t S' ⟨true, ov, ox⟩ = true := by unfold badW; simp [h0]
          rw [hb, if_pos rfl] at hdr
          clear q2 HM3 HE3 hb
          have hlk : ∃ y b, lookV (S' ov ox) = .tuple #[.int .i64 y, .bool b] := by
            cases S' ov ox with
            | none => exact ⟨_, _, rfl⟩
            | some y => exact ⟨_, _, rfl⟩
          obtain ⟨y, bb, hlk⟩ := hlk
          rw [hlk] at q1
          subst hdr
          clear h0
          go_wp2
          go_ret
          exact ⟨rfl, HE2.out, fun S' h => by cases h⟩
        · have t0 : ((ox : Int) == 0) = false := by simp [h0]
          cases hs : S' ov ox with
          | none =>
            have hb : badW t S' ⟨true, ov, ox⟩ = false := by unfold badW; simp [h0, hs, elseW]
            rw [hb, if_neg (by simp)] at hdr
            have HD1 := Lib.hid hdr.symm
            rw [hs] at q1
            unfold lookV at q1
            clear h0 hs hb hdr
            go_wp2
            go_roundw
            case rel => exact ⟨k + 1, by omega, by go_num, ⟨_, HM3, HD1⟩, HE3⟩
            case measure => simp [intOf]; omega
          | some y =>
            rw [hs] at q1
            unfold lookV at q1
            by_cases he : y = t
            · have hb : badW t S' ⟨true, ov, ox⟩ = false := by unfold badW; simp [h0, hs, elseW, he]
              rw [hb, if_neg (by simp)] at hdr
              have HD1 := Lib.hid hdr.symm
              have te : ((y : Int) != (t : Int)) = false := by simp [he]
              clear h0 hs hb hdr he
              go_wp2
              go_roundw
              case rel => exact ⟨k + 1, by omega, by go_num, ⟨_, HM3, HD1⟩, HE3⟩
              case measure => simp [intOf]; omega
            · have hb : badW t S' ⟨true, ov, ox⟩ = true := by unfold badW; simp [hs, elseW, he]
              rw [hb, if_pos rfl] at hdr
              subst hdr
              have te : ((y : Int) != (t : Int)) = true := by simp; omega
              clear h0 hs hb he q2
              go_wp2
              go_ret
              first | exact ⟨rfl, HE2.out, fun S' h => by cases h⟩ | exact ⟨rfl, HE2.out⟩
    · obtain rfl : k = ops.length := by omega
      have hr : R = some S' := by
        have h1 := HR.out
        rw [List.drop_length] at h1
        exact h1.symm
      subst hr
      go_wp2
      go_ret
      exact ⟨rfl, HE.out, fun S2 h => Option.some.inj h ▸ HM.out⟩
end Go.Proofs.YtmnblljenobofaaDoor
/- The walks of package unique's writersOf and Check. -/
namespace Go.Proofs.YtmnblljenobofaaDoor.WPlain
end Go.Proofs.YtmnblljenobofaaDoor.WPlain
namespace Go.Proofs.YtmnblljenobofaaDoor.QPlain
end Go.Proofs.YtmnblljenobofaaDoor.QPlain
namespace Go.Proofs.YtmnblljenobofaaDoor.RPlain
end Go.Proofs.YtmnblljenobofaaDoor.RPlain
namespace Go.Proofs.YtmnblljenobofaaDoor
open Go.RowKit WPlain QPlain RPlain

/-- the error that Check tells -/
def errU (h : List Ev) : Nat := if (checkS h).2 = 0 then (if uniqueS (tableS h) = true then 0 else 9) else (checkS h).2
theorem allsW_drop {l : List Tx} {k : Nat} (hk : k < l.length) (S : Wrt) : allsW k (l.drop k) S = match addsW k l[k].o S with
    | some S' => allsW (k + 1) (l.drop (k + 1)) S'
    | none => none := by
  rw [List.drop_eq_getElem_cons hk]
  rfl
/-- what a table's Ops are like -/
structure Fine (l : List Tx) : Prop where
  six : l.length ≤ 6
  ops : ∀ X ∈ l, X.o.length ≤ 60 ∧ ∀ o ∈ X.o, (0 ≤ o.v ∧ o.v ≤ 7) ∧ (Lit.int .i64 o.v).wf = true ∧ (Lit.int .i64 o.x).wf = true
theorem fine_table {h : List Ev} (h0 : (checkS h).2 = 0) : Fine (tableS h) := by
  refine ⟨table_six h0, fun X hX => ?_⟩
  obtain ⟨i, hi, rfl⟩ := List.getElem_of_mem hX
  have h1 := table_small_ops h0 i hi
  have h2 := table_ops h0 _ hX
  refine ⟨h2.2, fun o ho => ?_⟩
  have h3 := h1 o ho
  exact ⟨h2.1 o ho, wf64 h3.1.1 h3.1.2, wf64 h3.2.1 h3.2.2⟩
/-- the table, and who wrote what -/
def ToldW (h : List Ev) (w : World) (v m : Value) : Prop := errU h = 0 → Txs w v (tableS h) ∧ ∃ M k S, m = .map (some M) ∧ WMap w M k S ∧ Tells (tableS h) S
set_option maxRecDepth 100000 in
set_option maxHeartbeats 4000000 in
theorem writersOf_any (v : Value) (h : List Ev) (w : World) (hK : HasK w) (hv : Evs w v h) (hl : h.length ≤ 65536) :
    Calls Tryd.prog 28 #[v] w fun e w' => ∃ v' m', e = .returned (.tuple #[v', m', .int .i64 (errU h : Nat)]) ∧ ToldW h w' v' m' ∧ Below w.heap.size w w' := by
  have HT := Lib.hid (table_any v h w hK hv hl)
  obtain ⟨a, c, rfl⟩ := hv.len
  clear hv hK
  unfold ToldW
  by_cases h0 : (checkS h).2 = 0
  · have HF := Lib.hid (fine_table h0)
    have hwt := writers_tell (tableS h)
    have herr : errU h = if uniqueS (tableS h) = true then 0 else 9 := by unfold errU; rw [if_pos h0]
    rw [herr]
    rw [h0, if_pos rfl] at HT
    clear h0 herr
    generalize tableS h = l at *
    have HD := Lib.hid (fun (k : Nat) (hk : k < l.length) (S : Wrt) => allsW_drop (l := l) hk S)
    obtain ⟨R, hR⟩ : ∃ R, allsW 0 l noneW = R := ⟨_, rfl⟩
    have HR0 : Hid (allsW 0 (l.drop 0) noneW = R) := hR
    rw [hR] at hwt
    clear hR
    have HWT : Hid ((R = none ∧ (if uniqueS l = true then 0 else 9) = 9) ∨ ∃ S, R = some S ∧ (if uniqueS l = true then 0 else 9) = 0 ∧ Tells l S) := by
      rcases hwt with ⟨h1, h2⟩ | ⟨S, h1, h2, h3⟩
      · exact .inl ⟨h1, by rw [h2]; rfl⟩
      · exact .inr ⟨S, h1, by rw [h2]; rfl, h3⟩
    clear hwt
    generalize (if uniqueS l = true then 0 else 9) = er at *
    have hmm := @run_makeMap Tryd.prog
    have hl6 := HF.out.six
    go_enter Tryd.func28, Tryd.ntmps28
    go_wp2_with fail
    refine HT.out.mono ?_
    rintro e w1 ⟨v1, rfl, hv1, hb1⟩
    have hba : Below w1.heap.size w1 (w1.alloc (.map #[] 0)) := (Below.refl _ w1).alloc (Nat.le_refl _) _
    have HV0 := Lib.hid (hv1.below hba (Nat.le_refl _))
    have HM0 : Hid (WMap (w1.alloc (.map #[] 0)) w1.heap.size 0 noneW) := WMap.start w1
    have HB0 : Hid (Below w.heap.size w (w1.alloc (.map #[] 0))) := hb1.trans (hba.mono hb1.size)
    have hMB : w.heap.size ≤ w1.heap.size := hb1.size
    obtain ⟨a1, c1, rfl⟩ := hv1.len
    clear hv1 hb1 hba HT
    go_wp2_with fail
    generalize w1.alloc (.map #[] 0) = w2 at *
    generalize w1.heap.size = M at *
    go_loopw [21] (fun x wr => ∃ k : Nat, k ≤ l.length ∧ x = .int .i64 k ∧ (∃ S', Hid (WMap wr M (k * 60) S') ∧ Hid (allsW k (l.drop k) S' = R)) ∧ Hid (Txs wr (.slice a1 l.length c1) l) ∧ Hid (Below w.heap.size w wr)) (fun x _ => l.length - (intOf x).toNat)
    case atStart => exact ⟨0, by omega, rfl, ⟨noneW, HM0, HR0⟩, HV0, HB0⟩
    case round =>
      clear HM0 HR0 HV0 HB0
      obtain ⟨k, hkl, rfl, ⟨S', HM, HR⟩, HV, HB⟩ := hrel
      by_cases hlt : k < l.length
      · have hv2 := HV.out
        obtain ⟨b, o, c', he⟩ := hv2.opened (by omega)
        simp only [Value.slice.injEq] at he
        obtain ⟨rfl, -, -⟩ := he
        obtain ⟨u, x0, x1, x2, x3, x4, q⟩ := hv2.get k hlt
        have hbl := cell_lt x0
        have hfx := HF.out.ops _ (List.getElem_mem hlt)
        have hdr := HD.out k hlt S'
        rw [HR.out] at hdr
        have HDR := Lib.hid hdr
        clear hv2 hdr HR
        generalize l[k] = X at *
        obtain ⟨Xn, Xf, Xl, Xs, Xo⟩ := X
        dsimp only at *
        have hba : Below wr.heap.size wr (wr.alloc (.cells #[.int .i64 Xn, .int .i64 Xf, .int .i64 Xl, .int .i64 Xs, u] 65)) := (Below.refl _ wr).alloc (Nat.le_refl _) _
        have HM1 := Lib.hid (HM.out.below hba)
        have HV1 := Lib.hid (HV.out.below hba (Nat.le_refl _))
        have HB1 := Lib.hid (HB.out.trans (hba.mono HB.out.size))
        have HC := Lib.hid (addWrites_any k M (k * 60) u Xo S' _ HM1.out (q.below hba (Nat.le_refl _)) (fun o ho => (hfx.2 o ho).2) (by omega))
        have HXL := Lib.hid hfx.1
        obtain ⟨ua, uc, rfl, huc⟩ := q.len
        obtain ⟨qn, hqn⟩ : ∃ qn, Xo.length = qn := ⟨_, rfl⟩
        rw [hqn] at HC HXL huc HM1 HV1 HB1 x4
        clear hqn q hfx hba HM HV HB
        cases hs : addsW k Xo S' with
        | none =>
          rw [hs] at HC HDR
          have HN : Hid (R = none) := HDR.out
          clear HDR hs
          go_wp2_with fail
          refine HC.out.mono ?_
          rintro e w3 ⟨rfl, ho3, -⟩
          have HB3 := Lib.hid (HB1.out.trans ((ho3.below (B := w.heap.size) HB1.out.size (fun b _ hb => by rw [hb]; exact hMB)).mono (Nat.le_refl _)))
          go_wp2
          rcases HWT.out with ⟨-, hu⟩ | ⟨S, hc, -⟩
          · exact bodyPost_ret (v := .tuple #[.slice none 0 0, .map none, .int .i64 9]) (by simp [results, Tryd.results28, go_sem]) rfl ⟨_, _, by rw [hu]; rfl, fun hc => (by rw [hu] at hc; cases hc), HB3.out⟩
          · rw [HN.out] at hc; cases hc
        | some S2 =>
          rw [hs] at HC HDR
          have HD2 : Hid (allsW (k + 1) (l.drop (k + 1)) S2 = R) := HDR.out.symm
          clear HDR hs
          go_wp2_with fail
          refine HC.out.mono ?_
          rintro e w3 ⟨rfl, ho3, hm3⟩
          have HB3 := Lib.hid (HB1.out.trans ((ho3.below (B := w.heap.size) HB1.out.size (fun b _ hb => by rw [hb]; exact hMB)).mono (Nat.le_refl _)))
          have HV3 := Lib.hid (Txs.turned HM1.out ho3 HV1.out)
          have HM3 := Lib.hid ((hm3 S2 rfl).mono (show k * 60 + qn ≤ (k + 1) * 60 by have := HXL.out; omega))
          clear ho3 hm3 HC HB1 HV1 HM1
          go_wp2
          go_roundw
          case rel => exact ⟨k + 1, by omega, by go_num, ⟨S2, HM3, HD2⟩, HV3, HB3⟩
          case measure => simp [intOf]; omega
      · obtain rfl : k = l.length := by omega
        have hr : R = some S' := by
          have h1 := HR.out
          rw [List.drop_length] at h1
          exact h1.symm
        go_wp2
        rcases HWT.out with ⟨hc, -⟩ | ⟨S, hc, hu, ht⟩
        · rw [hr] at hc; cases hc
        · rw [hr] at hc
          obtain rfl := Option.some.inj hc
          exact bodyPost_ret (v := .tuple #[.slice a1 l.length c1, .map (some M), .int .i64 0]) (by simp [results, Tryd.results28, go_sem]) rfl ⟨_, _, by rw [hu]; rfl, fun _ => ⟨HV.out, M, _, _, rfl, HM.out, ht⟩, HB.out⟩
  · have herr : errU h = (checkS h).2 := by unfold errU; rw [if_neg h0]
    rw [herr]
    rw [if_neg h0] at HT
    have te : (((checkS h).2 : Int) != 0) = true := by simp; omega
    have hne : Hid (¬ (checkS h).2 = 0) := h0
    clear h0 herr
    generalize (checkS h).2 = er at *
    go_enter Tryd.func28, Tryd.ntmps28
    go_wp2_with fail
    refine HT.out.mono ?_
    rintro e w1 ⟨v1, rfl, hv1, hb1⟩
    have HB1 := Lib.hid hb1
    obtain ⟨a1, c1, rfl⟩ := hv1.len
    clear hv1 hb1 HT
    go_wp2
    exact bodyPost_ret (v := .tuple #[.slice none 0 0, .map none, .int .i64 (er : Int)]) (by simp [results, Tryd.results28, go_sem]) rfl ⟨_, _, rfl, fun hc => absurd hc hne.out, HB1.out⟩
set_option maxRecDepth 100000 in
theorem checkU_any (v : Value) (h : List Ev) (w : World) (hK : HasK w) (hv : Evs w v h) (hl : h.length ≤ 65536) :
    Calls Tryd.prog 11 #[v] w fun e w' => e = .returned (.int .i64 (errU h : Nat)) ∧ Below w.heap.size w w' := by
  have HW := Lib.hid (writersOf_any v h w hK hv hl)
  obtain ⟨a, c, rfl⟩ := hv.len
  clear hv hK
  generalize errU h = er at *
  go_enter Tryd.func11, Tryd.ntmps11
  go_wp2_with fail
  refine HW.out.mono ?_
  rintro e w1 ⟨v1, m1, rfl, -, hb1⟩
  have HB1 := Lib.hid hb1
  clear hb1 HW
  go_wp2
  go_ret
  exact ⟨rfl, HB1.out⟩
end Go.Proofs.YtmnblljenobofaaDoor
/- The walks of the reference's Writes, Owns and Unique. -/
namespace Go.Proofs.YtmnblljenobofaaDoor.WPlain
end Go.Proofs.YtmnblljenobofaaDoor.WPlain
namespace Go.Proofs.YtmnblljenobofaaDoor.QPlain
end Go.Proofs.YtmnblljenobofaaDoor.QPlain
namespace Go.Proofs.YtmnblljenobofaaDoor.RPlain
end Go.Proofs.YtmnblljenobofaaDoor.RPlain
namespace Go.Proofs.YtmnblljenobofaaDoor.RPlain
open WPlain QPlain

theorem opsAt_eq {l : List Tx} {i : Nat} (hi : i < l.length) : opsAt l i = l[i].o := by
  unfold opsAt
  rw [List.getElem?_eq_getElem hi]
end Go.Proofs.YtmnblljenobofaaDoor.RPlain
namespace Go.Proofs.YtmnblljenobofaaDoor
open Go.RowKit WPlain QPlain RPlain

end Go.Proofs.YtmnblljenobofaaDoor
