/- Merged: PrpB, TabE. -/
import Derived.Test.YtmnblljenobofaaDoorMg1
import Derived.Test.YtmnblljenobofaaDoorMg2
import Derived.Test.YtmnblljenobofaaDoorShelf
import Derived.Test.YtmnblljenobofaaDoorTabD
import Derived.Deep.RegionLaw
import Derived.Maps.RangeWalk
/- Maps of maps, of the call's own: laws of no program; and what moves hands back. -/
namespace Go.Proofs.YtmnblljenobofaaDoor.WPlain
end Go.Proofs.YtmnblljenobofaaDoor.WPlain
namespace Go.Proofs.YtmnblljenobofaaDoor.QPlain
end Go.Proofs.YtmnblljenobofaaDoor.QPlain
namespace Go.Proofs.YtmnblljenobofaaDoor
open Go.RowKit WPlain QPlain
open Go.Maps (Keyed)

/-- how an element that is a map reads: by its block -/
def mapE : Value → Option (DataW Unit × List MemPlace)
  | .map (some b) => some (.lit (.int .i64 (b : Int)), [])
  | .map none => some (.lit (.int .i64 (-1)), [])
  | _ => none
theorem mapE_inv {v : Value} {b : Nat} {ps : List MemPlace} (h : mapE v = some (.lit (.int .i64 (b : Int)), ps)) : v = .map (some b) := by
  unfold mapE at h
  split at h
  · rename_i b'
    simp at h
    obtain rfl : b' = b := by omega
    rfl
  · simp at h
  · cases h
theorem ownsMap_below {H : Type} {P : Program} {k : TypeId} {R : Value → Option (DataW H × List MemPlace)} {w w' : World} {b n B : Nat} {D : DataW H} (h : w.ownsMap P k R b n D) (hb : Below B w w') (hlt : b < B) : w'.ownsMap P k R b n D := by
  obtain ⟨es, clock, hh, r⟩ := h
  exact ⟨es, clock, (hb.block b hlt).trans hh, r⟩
theorem stateK : Keyed Tryd.prog 134 := Maps.int_keyed Tryd.underlying134
theorem intK : Keyed Tryd.prog 3 := Maps.int_keyed Tryd.underlying3
theorem key_state {i : Int} (h : (Lit.int .i64 i).wf = true) : keyOf Tryd.prog 134 (.int .i64 i) = some (.int .i64 i) := Maps.keyOf_int_mk Tryd.underlying134 h
theorem key_int {i : Int} (h : (Lit.int .i64 i).wf = true) : keyOf Tryd.prog 3 (.int .i64 i) = some (.int .i64 i) := Maps.keyOf_int_mk Tryd.underlying3 h
theorem elem_state {i : Int} (h : (Lit.int .i64 i).wf = true) : plainElem (H := Unit) Tryd.prog 134 (.int .i64 i) = some (.lit (.int .i64 i), []) := plainElem_int Tryd.underlying134 h
theorem zeroState (w : World) : (zeroValue 134).run Tryd.prog w = .ok (.int .i64 0) w := by kernel_rfl
theorem zeroMap (w : World) : (zeroValue 110).run Tryd.prog w = .ok (.map none) w := by kernel_rfl
/-- what moves hands back: a map of the states' maps, all between two numbers -/
def Mov (B U : Nat) (w : World) (b : Nat) : Prop :=
  B ≤ b ∧ b < U ∧ ∃ n D, w.ownsMap Tryd.prog 134 mapE b n D ∧ ∀ s : Nat, s < 8 → ∃ bs m, B ≤ bs ∧ bs < U ∧ (∀ z, D.atKey (.int .i64 (s : Int)) z = .lit (.int .i64 (bs : Int))) ∧ w.ownsMap Tryd.prog 3 (plainElem Tryd.prog 134) bs m (rowD s)
theorem Mov.below {B U C : Nat} {w w' : World} {b : Nat} (h : Mov B U w b) (hb : Below C w w') (hC : w.heap.size ≤ C) : Mov B U w' b := by
  obtain ⟨hB, hU, n, D, ho, hs⟩ := h
  refine ⟨hB, hU, n, D, ownsMap_below ho hb (Nat.lt_of_lt_of_le ho.lt hC), fun s h8 => ?_⟩
  obtain ⟨bs, m, h1, h4, h2, h3⟩ := hs s h8
  exact ⟨bs, m, h1, h4, h2, ownsMap_below h3 hb (Nat.lt_of_lt_of_le h3.lt hC)⟩
theorem Mov.grown {B U S : Nat} {w w' : World} {b : Nat} (h : Mov B U w b) (hg : w.grownBy w' (some S)) (hS : U ≤ S) : Mov B U w' b := by
  obtain ⟨hB, hU, n, D, ho, hs⟩ := h
  refine ⟨hB, hU, n, D, ho.kept hg (fun hh => by have hh := Option.some.inj hh; omega), fun s h8 => ?_⟩
  obtain ⟨bs, m, h1, h4, h2, h3⟩ := hs s h8
  exact ⟨bs, m, h1, h4, h2, h3.kept hg (fun hh => by have hh := Option.some.inj hh; omega)⟩
theorem Mov.mono {B B' U : Nat} {w : World} {b : Nat} (h : Mov B U w b) (hB : B' ≤ B) : Mov B' U w b := by
  obtain ⟨h1, hU, n, D, ho, hs⟩ := h
  refine ⟨Nat.le_trans hB h1, hU, n, D, ho, fun s h8 => ?_⟩
  obtain ⟨bs, m, h1, h4, h2, h3⟩ := hs s h8
  exact ⟨bs, m, Nat.le_trans hB h1, h4, h2, h3⟩
theorem wf64 {x : Int} (h1 : -9223372036854775808 ≤ x) (h2 : x ≤ 9223372036854775807) : (Lit.int .i64 x).wf = true := by
  simp [Lit.wf, IntKind.min, IntKind.max, IntKind.signed, IntKind.bits]; omega
end Go.Proofs.YtmnblljenobofaaDoor
/- How a table being built lies in memory: a map of pointers, by names. -/
namespace Go.Proofs.YtmnblljenobofaaDoor.WPlain
end Go.Proofs.YtmnblljenobofaaDoor.WPlain
namespace Go.Proofs.YtmnblljenobofaaDoor.QPlain
end Go.Proofs.YtmnblljenobofaaDoor.QPlain
namespace Go.Proofs.YtmnblljenobofaaDoor.RPlain
end Go.Proofs.YtmnblljenobofaaDoor.RPlain
namespace Go.Proofs.YtmnblljenobofaaDoor
open Go.RowKit WPlain QPlain RPlain
open Go.Maps (Keyed)

/-- how an element that is a pointer reads: by its block -/
def ptrE : Value → Option (DataW Unit × List MemPlace)
  | .pointer (some ⟨b, 0, none⟩) => some (.lit (.int .i64 (b : Int)), [])
  | .pointer none => some (.lit (.int .i64 (-1)), [])
  | _ => none
theorem ptrE_inv {v : Value} {b : Nat} {ps : List MemPlace} (h : ptrE v = some (.lit (.int .i64 (b : Int)), ps)) : v = .pointer (some ⟨b, 0, none⟩) := by
  unfold ptrE at h
  split at h
  · rename_i b'
    simp at h
    obtain rfl : b' = b := by omega
    rfl
  · simp at h
  · cases h
theorem ptrE_nil {v : Value} {ps : List MemPlace} (h : ptrE v = some (.lit (.int .i64 (-1)), ps)) : v = .pointer none := by
  unfold ptrE at h
  split at h
  · simp at h
  · rfl
  · cases h
theorem zeroPtr (w : World) : (zeroValue 83).run Tryd.prog w = .ok (.pointer none) w := by kernel_rfl
/-- block M is a map of pointers to the transactions of the names ns -/
structure Tab (B : Nat) (w : World) (M k : Nat) (ns : List Int) (X : Int → Tx) (P : Int → Nat) (V : Int → Value) : Prop where
  base : B ≤ M
  map : ∃ D, w.ownsMap Tryd.prog 3 ptrE M k D ∧ ∀ t : Int, (Lit.int .i64 t).wf = true → (t ∈ ns → Maps.has D (.int .i64 t) = true ∧ ∀ z, D.atKey (.int .i64 t) z = .lit (.int .i64 (P t : Int))) ∧ (t ∉ ns → Maps.has D (.int .i64 t) = false)
  tx : ∀ t ∈ ns, B ≤ P t ∧ Txm B w (P t) (X t).n (X t).f (X t).l (X t).s (V t) (X t).o
  apart : ∀ t ∈ ns, ∀ u ∈ ns, t ≠ u → P t ≠ P u ∧ ∀ b, (V t).ownBlock = some b → (V u).ownBlock ≠ some b
section
variable {B M k : Nat} {w w' : World} {ns : List Int} {X : Int → Tx} {P : Int → Nat} {V : Int → Value} {S : Nat → Prop}
theorem Tab.only (h : Tab B w M k ns X P V) (ho : Only S w w') (hM : ¬ S M) (hn : ∀ t ∈ ns, ∀ b, Mine (P t) (V t) b → ¬ S b) : Tab B w' M k ns X P V := by
  obtain ⟨D, ⟨es, clock, hh, hr⟩, hd⟩ := h.map
  exact ⟨h.base, ⟨D, ⟨es, clock, (ho.block M (Array.getElem?_eq_some_iff.1 hh).1 hM).trans hh, hr⟩, hd⟩, fun t ht => ⟨(h.tx t ht).1, (h.tx t ht).2.only ho (hn t ht)⟩, h.apart⟩
theorem Tab.below (h : Tab B w M k ns X P V) (hb : Below w.heap.size w w') : Tab B w' M k ns X P V :=
  h.only (S := fun _ => False) (Only.of_below hb) (fun hf => hf) (fun _ _ _ _ hf => hf)
theorem Tab.look_yes (h : Tab B w M k ns X P V) {t : Int} (hw : (Lit.int .i64 t).wf = true) (ht : t ∈ ns) :
    (Instr.lookup 82 (.map (some M)) (.int .i64 t) true).run Tryd.prog w = .ok (.tuple #[.pointer (some ⟨P t, 0, none⟩), .bool true]) w := by
  obtain ⟨D, ho, hd⟩ := h.map
  obtain ⟨v, ps, hr, hv⟩ := ho.look_ok intK Tryd.underlying82 (zeroPtr w) (zd := .lit (.int .i64 (-1))) (zp := []) rfl (key_int hw)
  rw [((hd t hw).1 ht).1] at hr
  rw [((hd t hw).1 ht).2] at hv
  rw [hr, ptrE_inv hv]
theorem Tab.look_no (h : Tab B w M k ns X P V) {t : Int} (hw : (Lit.int .i64 t).wf = true) (ht : t ∉ ns) :
    (Instr.lookup 82 (.map (some M)) (.int .i64 t) true).run Tryd.prog w = .ok (.tuple #[.pointer none, .bool false]) w := by
  obtain ⟨D, ho, hd⟩ := h.map
  obtain ⟨v, ps, hr, hv⟩ := ho.look_ok intK Tryd.underlying82 (zeroPtr w) (zd := .lit (.int .i64 (-1))) (zp := []) rfl (key_int hw)
  rw [(hd t hw).2 ht] at hr
  rw [Maps.atKey_of_not_has ((hd t hw).2 ht)] at hv
  rw [hr, ptrE_nil hv]
theorem Tab.look (h : Tab B w M k ns X P V) {t : Int} (hw : (Lit.int .i64 t).wf = true) (ht : t ∈ ns) :
    (Instr.lookup 82 (.map (some M)) (.int .i64 t) false).run Tryd.prog w = .ok (.pointer (some ⟨P t, 0, none⟩)) w := by
  obtain ⟨D, ho, hd⟩ := h.map
  obtain ⟨v, ps, hr, hv⟩ := ho.lookup intK Tryd.underlying82 (zeroPtr w) (zd := .lit (.int .i64 (-1))) (zp := []) rfl (key_int hw)
  rw [((hd t hw).1 ht).2] at hv
  rw [hr, ptrE_inv hv]
/-- the map's block is none of a transaction's -/
theorem Tab.notM (h : Tab B w M k ns X P V) {t : Int} (ht : t ∈ ns) : ¬ Mine (P t) (V t) M := by
  obtain ⟨D, ⟨es, clock, hh, _⟩, _⟩ := h.map
  have hT := (h.tx t ht).2
  rintro (hc | hc)
  · have := hT.at_
    unfold At at this
    rw [← hc, hh] at this
    simp at this
  · rcases hT.row.2 with ⟨he, _⟩ | ⟨g, cap, cur, he, _, hg, _⟩
    · rw [he] at hc; simp [Value.ownBlock] at hc
    · rw [he] at hc
      simp only [Value.ownBlock, Option.some.injEq] at hc
      rw [hc, hh] at hg
      simp at hg
/-- transactions share no block -/
theorem Tab.notMine (h : Tab B w M k ns X P V) {t u : Int} (ht : t ∈ ns) (hu : u ∈ ns) (hne : t ≠ u) {b : Nat} (hb : Mine (P t) (V t) b) : ¬ Mine (P u) (V u) b := by
  have hT := (h.tx t ht).2
  have hU := (h.tx u hu).2
  have ha := h.apart t ht u hu hne
  rcases hb with rfl | hb
  · rintro (hc | hc)
    · exact ha.1 hc
    · exact row_not hU.row hT.at_ (by decide) hc
  · rintro (rfl | hc)
    · exact row_not hT.row hU.at_ (by decide) hb
    · exact ha.2 b hb hc
theorem Tab.mine_lt (h : Tab B w M k ns X P V) {t : Int} (ht : t ∈ ns) {b : Nat} (hb : Mine (P t) (V t) b) : b < w.heap.size := by
  rcases hb with rfl | hb
  · exact (h.tx t ht).2.at_.lt
  · exact (own_base (h.tx t ht).2.row hb).2
theorem Tab.mine_ge (h : Tab B w M k ns X P V) {t : Int} (ht : t ∈ ns) {b : Nat} (hb : Mine (P t) (V t) b) : B ≤ b := by
  rcases hb with rfl | hb
  · exact (h.tx t ht).1
  · exact (own_base (h.tx t ht).2.row hb).1
/-- behind take -/
theorem Tab.took (h : Tab B w M k ns X P V) {t : Int} (ht : t ∈ ns) (ho : Only (Mine (P t) (V t)) w w') {x : Tx} {V' : Value} (hx : Txm B w' (P t) x.n x.f x.l x.s V' x.o) (hl : Lies w (V t) V') :
    Tab B w' M k ns (fun u => if u = t then x else X u) P (fun u => if u = t then V' else V u) := by
  obtain ⟨D, ⟨es, clock, hh, hr⟩, hd⟩ := h.map
  refine ⟨h.base, ⟨D, ⟨es, clock, (ho.block M (Array.getElem?_eq_some_iff.1 hh).1 (h.notM ht)).trans hh, hr⟩, hd⟩, fun u hu => ?_, fun u hu r hr hne => ?_⟩
  · refine ⟨(h.tx u hu).1, ?_⟩
    by_cases he : u = t
    · subst he
      rw [if_pos rfl, if_pos rfl]
      exact hx
    · rw [if_neg he, if_neg he]
      exact (h.tx u hu).2.only ho (fun b hb => h.notMine hu ht he hb)
  · refine ⟨(h.apart u hu r hr hne).1, fun b hb => ?_⟩
    have hnew : ∀ (s : Int), s ∈ ns → s ≠ t → ∀ b, V'.ownBlock = some b → (V s).ownBlock ≠ some b := by
      intro s hs hst b hb hc
      rcases hl with hl | hl
      · rw [hl] at hb
        exact (h.apart t ht s hs (fun e => hst e.symm)).2 b hb hc
      · have h1 := hl b hb
        have h2 := h.mine_lt hs (.inr hc)
        omega
    by_cases hut : u = t
    · rw [if_pos hut] at hb
      rw [if_neg (fun hc => hne (hut.trans hc.symm))]
      exact hnew r hr (fun hc => hne (hut.trans hc.symm)) b hb
    · rw [if_neg hut] at hb
      by_cases hrt : r = t
      · rw [if_pos hrt]
        exact fun hc => hnew u hu hut b hc hb
      · rw [if_neg hrt]
        exact (h.apart u hu r hr hne).2 b hb
/-- a new one -/
theorem Tab.made (h : Tab B w M k ns X P V) {t : Int} (hw : (Lit.int .i64 t).wf = true) (ht : t ∉ ns) {N : Nat} (hN : B ≤ N) {x : Tx} {v : Value} (hx : Txm B w N x.n x.f x.l x.s v x.o)
    (hfar : ∀ u ∈ ns, ∀ b, Mine N v b → ¬ Mine (P u) (V u) b) (hMN : ¬ Mine N v M) (hk : k ≤ 65536) :
    ∃ w', (Instr.mapUpdate 82 (.map (some M)) (.int .i64 t) (.pointer (some ⟨N, 0, none⟩))).run Tryd.prog w = .ok () w' ∧
      Tab B w' M (k + 1) (ns ++ [t]) (fun u => if u = t then x else X u) (fun u => if u = t then N else P u) (fun u => if u = t then v else V u) ∧ w.grownBy w' (some M) := by
  obtain ⟨D, ho, hd⟩ := h.map
  obtain ⟨w', hr, ho', hg⟩ := ho.update intK Tryd.underlying82 (by unfold maxLen; omega) (key_int hw) (show ptrE (.pointer (some ⟨N, 0, none⟩)) = some (.lit (.int .i64 (N : Int)), []) from rfl)
  have hO : Only (fun b => b = M) w w' := (Only.refl _ w).grown hg (fun b _ hb => (Option.some.inj hb).symm)
  refine ⟨w', hr, ⟨h.base, ⟨_, ho', fun u hu => ⟨fun hm => ?_, fun hm => ?_⟩⟩, fun u hu => ?_, fun u hu r hr hne => ?_⟩, hg⟩
  · by_cases he : u = t
    · subst he
      rw [if_pos rfl]
      exact ⟨Maps.has_put_same ho.isMap (intK.key (key_int hw)) _, fun z => Maps.atKey_put_same ho.isMap (intK.key (key_int hw)) _ _⟩
    · rw [if_neg he]
      have hmn : u ∈ ns := by
        rcases List.mem_append.1 hm with hm | hm
        · exact hm
        · exact absurd (List.mem_singleton.1 hm) he
      have hkne : (Lit.int .i64 u) ≠ (.int .i64 t) := fun hc => he (by simpa using hc)
      exact ⟨(Maps.has_put_other hkne _).trans ((hd u hu).1 hmn).1, fun z => (Maps.atKey_put_other hkne _ _).trans (((hd u hu).1 hmn).2 z)⟩
  · rw [List.mem_append, not_or] at hm
    have he : u ≠ t := fun hc => hm.2 (by simp [hc])
    exact (Maps.has_put_other (fun hc => he (by simpa using hc)) _).trans ((hd u hu).2 hm.1)
  · by_cases he : u = t
    · rw [if_pos he, if_pos he, if_pos he]
      exact ⟨hN, hx.only hO (fun b hb hc => hMN (hc ▸ hb))⟩
    · rw [if_neg he, if_neg he, if_neg he]
      have hmn : u ∈ ns := by
        rcases List.mem_append.1 hu with hm | hm
        · exact hm
        · exact absurd (List.mem_singleton.1 hm) he
      exact ⟨(h.tx u hmn).1, (h.tx u hmn).2.only hO (fun b hb hc => h.notM hmn (hc ▸ hb))⟩
  · have hin : ∀ s : Int, s ∈ ns ++ [t] → s ≠ t → s ∈ ns := fun s hs he => (List.mem_append.1 hs).elim id (fun hm => absurd (List.mem_singleton.1 hm) he)
    by_cases hut : u = t
    · have hrt : r ≠ t := fun hc => hne (hut.trans hc.symm)
      rw [if_pos hut, if_pos hut, if_neg hrt, if_neg hrt]
      have hf := hfar r (hin r hr hrt)
      exact ⟨fun hc => hf N (.inl rfl) (.inl hc), fun b hb hc => hf b (.inr hb) (.inr hc)⟩
    · rw [if_neg hut, if_neg hut]
      by_cases hrt : r = t
      · rw [if_pos hrt, if_pos hrt]
        have hf := hfar u (hin u hu hut)
        exact ⟨fun hc => hf N (.inl rfl) (.inl hc.symm), fun b hb hc => hf b (.inr hc) (.inr hb)⟩
      · rw [if_neg hrt, if_neg hrt]
        exact h.apart u (hin u hu hut) r (hin r hr hrt) hne
theorem Tab.as (h : Tab B w M k ns X P V) {X' : Int → Tx} (hX : ∀ t ∈ ns, X' t = X t) : Tab B w M k ns X' P V :=
  ⟨h.base, h.map, fun t ht => by rw [hX t ht]; exact h.tx t ht, h.apart⟩
end
theorem Tab.start (w : World) {B : Nat} (hB : B ≤ w.heap.size) (X : Int → Tx) (P : Int → Nat) (V : Int → Value) : Tab B (w.alloc (.map #[] 0)) w.heap.size 0 [] X P V :=
  ⟨hB, ⟨.map [], World.ownsMap_made w _ _ _, fun _ _ => ⟨fun h => (List.not_mem_nil h).elim, fun _ => rfl⟩⟩, fun _ h => (List.not_mem_nil h).elim, fun _ h => (List.not_mem_nil h).elim⟩
end Go.Proofs.YtmnblljenobofaaDoor
