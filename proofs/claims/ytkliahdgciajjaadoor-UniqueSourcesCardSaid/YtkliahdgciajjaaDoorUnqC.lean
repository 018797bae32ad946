/- A map of the call's own, keyed by a variable and a value, of who wrote what; rows of numbers, each a row of the call's own. -/
import Derived.Test.YtkliahdgciajjaaDoorLegR
import Derived.Test.YtkliahdgciajjaaDoorUnqB
import Derived.Test.YtkliahdgciajjaaDoorMg13
import Derived.Test.YtkliahdgciajjaaDoorTabE
import Derived.DeepKeys4
import Derived.WideKeyPair
namespace Go.Proofs.YtkliahdgciajjaaDoor.WPlain
end Go.Proofs.YtkliahdgciajjaaDoor.WPlain
namespace Go.Proofs.YtkliahdgciajjaaDoor.QPlain
end Go.Proofs.YtkliahdgciajjaaDoor.QPlain
namespace Go.Proofs.YtkliahdgciajjaaDoor.RPlain
end Go.Proofs.YtkliahdgciajjaaDoor.RPlain
namespace Go.Proofs.YtkliahdgciajjaaDoor
open Go.RowKit WPlain QPlain RPlain
open Go.Maps (Keyed)

/-- the key of a variable and a value; how it reads -/
def keyV (v x : Int) : Value := .agg #[.int .i64 v, .int .i64 x]
def keyL (v x : Int) : Lit := .string (keyBytes [.int .i64 v, .int .i64 x])
theorem laidOutW : laidOutB Tryd.prog = true := by kernel_rfl
theorem rowW : (72 : TypeId) < (Tryd.prog).types.size := of_decide_eq_true (by kernel_rfl)
theorem wideW : (match (Tryd.prog).underlying 72 with | some (.array _ _) | some (.struct _) => true | _ => false) = true := by kernel_rfl
theorem writtenK : Keyed Tryd.prog 72 := Keyed.of_law (deep_law_laid laidOutW (m := 2) (by omega) rowW (by kernel_rfl) wideW)
theorem keyTypeW : (Tryd.prog).keyType 72 = true := by kernel_rfl
theorem cellsW : (Tryd.prog).cellsOf 72 = 2 := by kernel_rfl
theorem cellsI : (Tryd.prog).cellsOf 3 = 1 := by kernel_rfl
theorem key_written {v x : Int} (hv : (Lit.int .i64 v).wf = true) (hx : (Lit.int .i64 x).wf = true) : keyOf Tryd.prog 72 (keyV v x) = some (keyL v x) := by
  obtain ⟨m, hm⟩ : ∃ m, (Tryd.prog).types.size = m + 1 := Nat.exists_eq_add_one_of_ne_zero (Nat.ne_of_gt (Nat.lt_of_le_of_lt (Nat.zero_le _) rowW))
  unfold keyOf keyL keyV
  simp only [Tryd.underlying72]
  rw [if_pos (by simp [keyTypeW, Value.formed, Tryd.underlying72, cellsW]), hm]
  unfold Program.keyLits
  simp only [Tryd.underlying72, Value.cells]
  rw [if_pos (by constructor; · rw [cellsW]; rfl
                 · simp)]
  simp [cellsI, Program.keyLits, Tryd.underlying3, hv, hx]
theorem keyL_inj {v x v' x' : Int} (hv : (Lit.int .i64 v).wf = true) (hx : (Lit.int .i64 x).wf = true) (hv' : (Lit.int .i64 v').wf = true) (hx' : (Lit.int .i64 x').wf = true) (h : keyL v x = keyL v' x') : v = v' ∧ x = x' := by
  have h1 := writtenK.inj (key_written hv hx) (h ▸ key_written hv' hx')
  simpa [keyV] using h1
/-- block M is a map that holds what S tells -/
def WMap (w : World) (M k : Nat) (S : Wrt) : Prop := ∃ D, w.ownsMap Tryd.prog 72 intE M k D ∧ ∀ v x : Int, (Lit.int .i64 v).wf = true → (Lit.int .i64 x).wf = true →
  (∀ t : Nat, S v x = some t → Maps.has D (keyL v x) = true ∧ ∀ z, D.atKey (keyL v x) z = .lit (.int .i64 (t : Int))) ∧ (S v x = none → Maps.has D (keyL v x) = false)
section
variable {w w' : World} {M k : Nat} {S : Wrt}
theorem WMap.start (w : World) : WMap (w.alloc (.map #[] 0)) w.heap.size 0 noneW := ⟨.map [], World.ownsMap_made w _ _ _, fun _ _ _ _ => ⟨fun _ h => (by cases h), fun _ => rfl⟩⟩
theorem WMap.lt (h : WMap w M k S) : M < w.heap.size := by obtain ⟨D, ho, _⟩ := h; exact ho.lt
theorem WMap.mono (h : WMap w M k S) {n : Nat} (hn : k ≤ n) : WMap w M n S := by obtain ⟨D, ho, hd⟩ := h; exact ⟨D, ho.mono hn, hd⟩
theorem WMap.below (h : WMap w M k S) (hb : Below w.heap.size w w') : WMap w' M k S := by
  obtain ⟨D, ho, hd⟩ := h
  exact ⟨D, ownsMap_below ho hb ho.lt, hd⟩
theorem WMap.kept (h : WMap w M k S) {r : Option Nat} (hg : w.grownBy w' r) (hne : some M ≠ r) : WMap w' M k S := by
  obtain ⟨D, ho, hd⟩ := h
  exact ⟨D, ho.kept hg hne, hd⟩
/-- what a look tells: who, and whether it is there -/
def lookV : Option Nat → Value
  | some t => .tuple #[.int .i64 (t : Int), .bool true]
  | none => .tuple #[.int .i64 0, .bool false]
theorem WMap.look (h : WMap w M k S) {v x : Int} (hv : (Lit.int .i64 v).wf = true) (hx : (Lit.int .i64 x).wf = true) :
    (Instr.lookup 37 (.map (some M)) (.agg #[.int .i64 v, .int .i64 x]) true).run Tryd.prog w = .ok (lookV (S v x)) w := by
  obtain ⟨D, ho, hd⟩ := h
  obtain ⟨u, ps, hr, hu⟩ := ho.look_ok writtenK Tryd.underlying37 (zeroI w) (zd := .lit (.int .i64 0)) (zp := []) rfl (key_written hv hx)
  cases hs : S v x with
  | some t =>
    have h1 := (hd v x hv hx).1 t hs
    rw [h1.1] at hr
    rw [h1.2] at hu
    rw [intE_inv hu] at hr
    exact hr
  | none =>
    have h1 := (hd v x hv hx).2 hs
    rw [h1] at hr
    rw [Maps.atKey_of_not_has h1] at hu
    rw [intE_inv hu] at hr
    exact hr
theorem WMap.set (h : WMap w M k S) (t : Nat) {o : Rwo} (hv : (Lit.int .i64 o.v).wf = true) (hx : (Lit.int .i64 o.x).wf = true) (hk : k ≤ 65536) :
    ∃ w', (Instr.mapUpdate 37 (.map (some M)) (.agg #[.int .i64 o.v, .int .i64 o.x]) (.int .i64 (t : Int))).run Tryd.prog w = .ok () w' ∧ WMap w' M (k + 1) (putW t S o) ∧ w.grownBy w' (some M) := by
  obtain ⟨D, ho, hd⟩ := h
  obtain ⟨w', hr, ho', hg⟩ := ho.update writtenK Tryd.underlying37 (by unfold maxLen; omega) (key_written hv hx) (show intE (.int .i64 (t : Int)) = some (.lit (.int .i64 (t : Int)), []) from rfl)
  refine ⟨w', hr, ⟨_, ho', fun u y hu hy => ?_⟩, hg⟩
  unfold putW
  by_cases he : u = o.v ∧ y = o.x
  · obtain ⟨rfl, rfl⟩ := he
    rw [if_pos ⟨rfl, rfl⟩]
    refine ⟨fun t' ht => ?_, fun hn => (by cases hn)⟩
    rw [← Option.some.inj ht]
    exact ⟨Maps.has_put_same ho.isMap (writtenK.key (key_written hv hx)) _, fun z => Maps.atKey_put_same ho.isMap (writtenK.key (key_written hv hx)) _ _⟩
  · rw [if_neg he]
    have hkne : keyL u y ≠ keyL o.v o.x := fun hc => he (keyL_inj hu hy hv hx hc)
    exact ⟨fun t' ht => ⟨(Maps.has_put_other hkne _).trans ((hd u y hu hy).1 t' ht).1, fun z => (Maps.atKey_put_other hkne _ _).trans (((hd u y hu hy).1 t' ht).2 z)⟩, fun hn => (Maps.has_put_other hkne _).trans ((hd u y hu hy).2 hn)⟩
end
/-- a block of cells is none of a map -/
theorem WMap.at_ne {w : World} {M k : Nat} {S : Wrt} (h : WMap w M k S) {N : Nat} {cs : Array Value} {t : TypeId} (hA : At w N cs t) : M ≠ N := by
  obtain ⟨D, ⟨es, clock, hh, _⟩, _⟩ := h
  rintro rfl
  unfold At at hA
  rw [hh] at hA
  simp at hA
theorem WMap.row_ne {w : World} {M k : Nat} {S : Wrt} (h : WMap w M k S) {B : Nat} {e : TypeId} {s : Nat} {v : Value} {n : Nat} {xs : List Value} (hr : w.ownsRow B e s v n xs) : v.ownBlock ≠ some M := by
  obtain ⟨D, ⟨es, clock, hh, _⟩, _⟩ := h
  intro hc
  rcases hr.2 with ⟨he, _⟩ | ⟨g, cap, cur, he, _, hg, _⟩
  · rw [he] at hc; simp [Value.ownBlock] at hc
  · rw [he] at hc
    simp only [Value.ownBlock, Option.some.injEq] at hc
    rw [hc, hh] at hg
    simp at hg
/-- rows of numbers, each a row of the call's own -/
def RowsI (B : Nat) (w : World) (vs : List Value) (rows : List (List Int)) : Prop :=
  vs.length = rows.length ∧ ∀ i (hi : i < rows.length) (h : i < vs.length), w.ownsRow B 3 1 vs[i] rows[i].length (ints rows[i])
theorem RowsI.below {B : Nat} {w w' : World} {vs : List Value} {rows : List (List Int)} (h : RowsI B w vs rows) (hb : Below w.heap.size w w') : RowsI B w' vs rows :=
  ⟨h.1, fun i hi hi' => (h.2 i hi hi').kept (grownB11 hb) (by cases (vs[i]).ownBlock <;> simp)⟩
theorem RowsI.grown {B B2 : Nat} {w w' : World} {vs us : List Value} {rows : List (List Int)} {z : Value} {n : Nat} (h : RowsI B w vs rows) (hz : w.ownsRow B2 34 1 z n us) (hg : w.grownBy w' z.ownBlock) : RowsI B w' vs rows :=
  ⟨h.1, fun i hi hi' => (h.2 i hi hi').kept hg (row_apart (h.2 i hi hi') hz (by decide))⟩
theorem RowsI.nil (B : Nat) (w : World) : RowsI B w [] [] := ⟨rfl, fun i hi => by simp at hi⟩
theorem RowsI.snoc {B : Nat} {w : World} {vs : List Value} {rows : List (List Int)} {v : Value} {r : List Int} (h : RowsI B w vs rows) (hv : w.ownsRow B 3 1 v r.length (ints r)) : RowsI B w (vs ++ [v]) (rows ++ [r]) := by
  obtain ⟨h1, h2⟩ := h
  refine ⟨by simp [h1], fun i hi hi' => ?_⟩
  by_cases hlt : i < rows.length
  · simp only [List.getElem_append_left hlt, List.getElem_append_left (show i < vs.length by omega)]
    exact h2 i hlt (by omega)
  · obtain rfl : i = rows.length := by simp at hi; omega
    have e1 : (rows ++ [r])[rows.length] = r := by simp
    have e2 : (vs ++ [v])[rows.length]'hi' = v := by simp [← h1]
    rw [e1, e2]
    exact hv
theorem RowsI.get {B : Nat} {w : World} {vs : List Value} {rows : List (List Int)} (h : RowsI B w vs rows) {i : Nat} (hi : i < rows.length) : ∃ a c, vs[i]? = some (.slice a rows[i].length c) ∧ w.ownsRow B 3 1 (.slice a rows[i].length c) rows[i].length (ints rows[i]) := by
  have hi' : i < vs.length := by rw [h.1]; exact hi
  have h2 := h.2 i hi hi'
  obtain ⟨a, c, he⟩ := row_slice h2
  refine ⟨a, c, by rw [List.getElem?_eq_getElem hi', he], ?_⟩
  rw [← he]
  exact h2
/-- a slice value reads as rows of numbers -/
def Rows2 (w : World) (v : Value) (rows : List (List Int)) : Prop := ∃ vs, Rd w v vs ∧ RowsI 0 w vs rows
theorem Rows2.below {w w' : World} {v : Value} {rows : List (List Int)} (h : Rows2 w v rows) (hb : Below w.heap.size w w') : Rows2 w' v rows := by
  obtain ⟨vs, h1, h2⟩ := h
  exact ⟨vs, h1.below hb (Nat.le_refl _), h2.below hb⟩
theorem Rows2.nil (w : World) : Rows2 w (.slice none 0 0) [] := ⟨[], Rd.of_row (World.ownsRow_nil (base := 0) (e := 34) (size := 1) w), RowsI.nil _ _⟩
theorem Rows2.len {w : World} {v : Value} {rows : List (List Int)} (h : Rows2 w v rows) : ∃ a c, v = .slice a rows.length c := by
  obtain ⟨vs, h1, h2, _⟩ := h
  rw [← h2]
  exact h1.len
theorem Rows2.get {w : World} {a : Option Addr} {n c : Nat} {rows : List (List Int)} (h : Rows2 w (.slice a n c) rows) (i : Nat) (hi : i < rows.length) :
    ∃ b o ra rc, a = some ⟨b, o, none⟩ ∧ b < w.heap.size ∧ w.cell? ⟨b, o + i, none⟩ = some (.slice ra rows[i].length rc) ∧ Rd w (.slice ra rows[i].length rc) (ints rows[i]) := by
  obtain ⟨vs, h1, h2⟩ := h
  obtain ⟨b, o, c', he, hb, hc⟩ := h1.opened (by rw [h2.1]; omega)
  obtain ⟨ra, rc, hg, hr⟩ := h2.get hi
  simp only [Value.slice.injEq] at he
  obtain ⟨rfl, -, -⟩ := he
  exact ⟨b, o, ra, rc, rfl, hb, hc i _ hg, Rd.of_row hr⟩
/-- cells stay while a map's entries turn -/
theorem cell_turned {w w' : World} {M k : Nat} {S : Wrt} (hm : WMap w M k S) (ho : Only (fun b => b = M) w w') {p : Addr} {u : Value} (h : w.cell? p = some u) : w'.cell? p = some u := by
  obtain ⟨D, ⟨es, clock, hh, _⟩, _⟩ := hm
  have hlt := World.block_lt_of_cell? w _ h
  have hne : ¬ p.block = M := by
    intro hc
    rw [← hc] at hh
    unfold World.cell? at h
    rw [hh] at h
    cases h
  unfold World.cell? at h ⊢
  rw [ho.block p.block hlt hne]
  exact h
theorem Rws.turned {α : Type} {z : Nat} {f : α → List Value} {w w' : World} {M k : Nat} {S : Wrt} (hm : WMap w M k S) (ho : Only (fun b => b = M) w w') {v : Value} {l : List α} (h : Rws z f w v l) : Rws z f w' v l := by
  rcases h with h0 | ⟨h0, b, o, c, rfl, hlt, hc⟩
  · exact .inl h0
  · exact .inr ⟨h0, b, o, c, rfl, Nat.lt_of_lt_of_le hlt ho.size, fun i hi j u hj hu => cell_turned hm ho (hc i hi j u hj hu)⟩
theorem Opv.turned {w w' : World} {M k : Nat} {S : Wrt} (hm : WMap w M k S) (ho : Only (fun b => b = M) w w') {v : Value} {l : List Rwo} (h : Opv w v l) : Opv w' v l := ⟨Rws.turned hm ho h.1, h.2⟩
theorem Txs.turned {w w' : World} {M k : Nat} {S : Wrt} (hm : WMap w M k S) (ho : Only (fun b => b = M) w w') {v : Value} {l : List Tx} (h : Txs w v l) : Txs w' v l := by
  obtain ⟨ps, h1, h2, h3⟩ := h
  exact ⟨ps, h1, Rws.turned hm ho h2, fun p hp => Opv.turned hm ho (h3 p hp)⟩
end Go.Proofs.YtkliahdgciajjaaDoor
