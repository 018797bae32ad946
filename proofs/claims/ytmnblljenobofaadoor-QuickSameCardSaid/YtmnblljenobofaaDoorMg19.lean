/- Merged: ExtN, ExtO, UnqF. -/
import Derived.Test.YtmnblljenobofaaDoorMg18
import Derived.Test.YtmnblljenobofaaDoorCmpD
import Derived.Test.YtmnblljenobofaaDoorTxtH
import Derived.Test.YtmnblljenobofaaDoorMg4
import Derived.Test.YtmnblljenobofaaDoorMg1
import Derived.Test.YtmnblljenobofaaDoorMg3
import Derived.Test.YtmnblljenobofaaDoorExtI
import Derived.Test.YtmnblljenobofaaDoorMg15
import Derived.Lib.ItoaMem
import Derived.Lib.ItoaLen
import Derived.Lib.SmallJoins
/- The walk of the reference's All. -/
namespace Go.Proofs.YtmnblljenobofaaDoor.RPlain
end Go.Proofs.YtmnblljenobofaaDoor.RPlain
namespace Go.Proofs.YtmnblljenobofaaDoor
open Go.RowKit RPlain

/-- rows of places, each a row of the call's own -/
def RowsO (B : Nat) (w : World) (vs : List Value) (rows : List (List Nat)) : Prop :=
  vs.length = rows.length ∧ ∀ i (hi : i < rows.length) (h : i < vs.length), w.ownsRow B 3 1 vs[i] rows[i].length (nats rows[i])
theorem RowsO.below {B : Nat} {w w' : World} {vs : List Value} {rows : List (List Nat)} (h : RowsO B w vs rows) (hb : Below w.heap.size w w') : RowsO B w' vs rows :=
  ⟨h.1, fun i hi hi' => (h.2 i hi hi').kept (grownB11 hb) (by cases (vs[i]).ownBlock <;> simp)⟩
theorem RowsO.grown {B B2 : Nat} {w w' : World} {vs us : List Value} {rows : List (List Nat)} {z : Value} {n : Nat} (h : RowsO B w vs rows) (hz : w.ownsRow B2 24 1 z n us) (hg : w.grownBy w' z.ownBlock) : RowsO B w' vs rows :=
  ⟨h.1, fun i hi hi' => (h.2 i hi hi').kept hg (row_apart (h.2 i hi hi') hz (by decide))⟩
theorem RowsO.snoc {B : Nat} {w : World} {vs : List Value} {rows : List (List Nat)} {v : Value} {r : List Nat} (h : RowsO B w vs rows) (hv : w.ownsRow B 3 1 v r.length (nats r)) : RowsO B w (vs ++ [v]) (rows ++ [r]) := by
  obtain ⟨h1, h2⟩ := h
  refine ⟨by simp [h1], fun i hi hi' => ?_⟩
  by_cases hlt : i < rows.length
  · simp only [List.getElem_append_left hlt, List.getElem_append_left (show i < vs.length by omega)]
    exact h2 i hlt (by omega)
  · obtain rfl : i = rows.length := by simp at hi; omega
    have e1 : (rows ++ [r])[rows.length] = r := by simp
    have e2 : (vs ++ [v])[rows.length]'hi' = v := by simp [← h1]
    rw [e1, e2]
    exact hv
theorem RowsO.get {B : Nat} {w : World} {vs : List Value} {rows : List (List Nat)} (h : RowsO B w vs rows) {i : Nat} (hi : i < rows.length) : ∃ a c, vs[i]? = some (.slice a rows[i].length c) ∧ w.ownsRow B 3 1 (.slice a rows[i].length c) rows[i].length (nats rows[i]) := by
  have hi' : i < vs.length := by rw [h.1]; exact hi
  have h2 := h.2 i hi hi'
  obtain ⟨a, c, he⟩ := row_slice h2
  refine ⟨a, c, by rw [List.getElem?_eq_getElem hi', he], ?_⟩
  rw [← he]
  exact h2
/-- what holds while the next rows are gathered -/
structure LvlR (B B2 : Nat) (w0 : World) (y : Value) (vs : List Value) (L : List (List Nat)) (z : Value) (acc : List (List Nat)) (w : World) : Prop where
  out : w.ownsRow B 24 1 y L.length vs
  rows : RowsO B w vs L
  acc : ∃ us, w.ownsRow B2 24 1 z acc.length us ∧ RowsO B w us acc
  bel : Below B w0 w
  low : ∀ g, y.ownBlock = some g → g < B2
  top : B2 ≤ w.heap.size
  base : B ≤ B2
theorem LvlR.below {B B2 : Nat} {w0 : World} {y : Value} {vs : List Value} {L : List (List Nat)} {z : Value} {acc : List (List Nat)} {w w' : World} (h : LvlR B B2 w0 y vs L z acc w) (hb : Below w.heap.size w w') : LvlR B B2 w0 y vs L z acc w' := by
  obtain ⟨h1, h2, ⟨us, h3, h4⟩, h5, h6, h7, h8⟩ := h
  exact ⟨h1.kept (grownB11 hb) (by cases y.ownBlock <;> simp), h2.below hb, ⟨us, h3.kept (grownB11 hb) (by cases z.ownBlock <;> simp), h4.below hb⟩, h5.trans (hb.mono (by omega)), h6, Nat.le_trans h7 hb.size, h8⟩
end Go.Proofs.YtmnblljenobofaaDoor
/- The walks of the reference's whole and All. -/
namespace Go.Proofs.YtmnblljenobofaaDoor.RPlain
end Go.Proofs.YtmnblljenobofaaDoor.RPlain
namespace Go.Proofs.YtmnblljenobofaaDoor
open Go.RowKit RPlain

theorem cell_slice_at (w : World) (o : Value) (t : TypeId) : ∀ j u, [o][j]? = some u → (w.alloc (.cells #[o] t)).cell? ((⟨w.heap.size, 0, none⟩ : Addr).add j) = some u := cell_one_at w o t
theorem one_sl (a : Option Addr) (n c : Nat) : ∀ u ∈ [Value.slice a n c], u.oneCell' = true := by intro u hu; simp at hu; subst hu; rfl
end Go.Proofs.YtmnblljenobofaaDoor
/- The walks of package unique's sourcesOf and Sources. -/
namespace Go.Proofs.YtmnblljenobofaaDoor.WPlain
end Go.Proofs.YtmnblljenobofaaDoor.WPlain
namespace Go.Proofs.YtmnblljenobofaaDoor.QPlain
end Go.Proofs.YtmnblljenobofaaDoor.QPlain
namespace Go.Proofs.YtmnblljenobofaaDoor.RPlain
end Go.Proofs.YtmnblljenobofaaDoor.RPlain
namespace Go.Proofs.YtmnblljenobofaaDoor.RPlain
open WPlain QPlain

/-- the source of an Op, by the table of writers -/
def srcR (S : Wrt) (t : Nat) (ops : List Rwo) (i : Nat) : Int := match ops[i]? with
  | some o => if o.w = true ∨ ownsB (ops.take i) o.v = true then (t : Int) else readW S t o
  | none => 0
def srcRow (S : Wrt) (t : Nat) (ops : List Rwo) (k : Nat) : List Int := (List.range k).map (srcR S t ops)
theorem srcRow_len (S : Wrt) (t : Nat) (ops : List Rwo) (k : Nat) : (srcRow S t ops k).length = k := by simp [srcRow]
theorem srcRow_snoc (S : Wrt) (t : Nat) (ops : List Rwo) (k : Nat) : srcRow S t ops (k + 1) = srcRow S t ops k ++ [srcR S t ops k] := by
  unfold srcRow
  rw [List.range_succ, List.map_append]
  rfl
theorem srcR_at {S : Wrt} {t : Nat} {ops : List Rwo} {k : Nat} (hk : k < ops.length) : srcR S t ops k = if ops[k].w = true ∨ ownsB (ops.take k) ops[k].v = true then (t : Int) else readW S t ops[k] := by
  unfold srcR
  rw [List.getElem?_eq_getElem hk]
theorem owns_take {ops : List Rwo} {k : Nat} (hk : k < ops.length) (v : Int) : ownsB (ops.take (k + 1)) v = (ownsB (ops.take k) v || (ops[k].w && decide (ops[k].v = v))) := by
  rw [List.take_succ_eq_append_getElem hk]
  unfold ownsB
  rw [List.any_append]
  simp
/-- all rows of sources, up to a transaction -/
def allR (l : List Tx) (k : Nat) : List (List Int) := (sourcesS l).take k
theorem sources_len (l : List Tx) : (sourcesS l).length = l.length := by simp [sourcesS]
theorem sources_at {l : List Tx} {S : Wrt} (h : Tells l S) {k : Nat} (hk : k < l.length) : (sourcesS l)[k]? = some (srcRow S k l[k].o l[k].o.length) := by
  have ho : opsAt l k = l[k].o := by unfold opsAt; rw [List.getElem?_eq_getElem hk]
  unfold sourcesS
  rw [List.getElem?_map, List.getElem?_range hk]
  simp only [Option.map_some, Option.some.injEq]
  rw [ho]
  unfold srcRow
  refine List.map_congr_left fun i hi => ?_
  have hil : i < l[k].o.length := List.mem_range.1 hi
  rw [srcR_at hil]
  have h1 := src_table h (t := k) (i := i) (o := l[k].o[i]) (by rw [ho]; exact List.getElem?_eq_getElem hil)
  rw [h1, ho]
theorem allR_snoc {l : List Tx} {S : Wrt} (h : Tells l S) {k : Nat} (hk : k < l.length) : allR l (k + 1) = allR l k ++ [srcRow S k l[k].o l[k].o.length] := by
  have h1 := sources_at h hk
  have hk2 : k < (sourcesS l).length := by rw [sources_len]; exact hk
  rw [List.getElem?_eq_getElem hk2, Option.some.injEq] at h1
  unfold allR
  rw [List.take_succ_eq_append_getElem hk2, h1]
theorem allR_all (l : List Tx) : allR l l.length = sourcesS l := by
  unfold allR
  rw [← sources_len l, List.take_length]
end Go.Proofs.YtmnblljenobofaaDoor.RPlain
namespace Go.Proofs.YtmnblljenobofaaDoor
open Go.RowKit WPlain QPlain RPlain

/-- the cells of an array of eight bools -/
def bools8 (f : Int → Bool) : Array Value := #[.bool (f 0), .bool (f 1), .bool (f 2), .bool (f 3), .bool (f 4), .bool (f 5), .bool (f 6), .bool (f 7)]
theorem bools8_at (f : Int → Bool) : ∀ v : Nat, v < 8 → (bools8 f)[v]? = some (.bool (f (v : Int)))
  | 0, _ | 1, _ | 2, _ | 3, _ | 4, _ | 5, _ | 6, _ | 7, _ => by simp [bools8]
  | n + 8, h => by omega
theorem bools8_set (f g : Int → Bool) : ∀ v : Nat, v < 8 → (∀ u : Int, g u = (f u || decide ((v : Int) = u))) → (bools8 f).setIfInBounds v (.bool true) = bools8 g
  | 0, _, h | 1, _, h | 2, _, h | 3, _, h | 4, _, h | 5, _, h | 6, _, h | 7, _, h => by simp [bools8, h]
  | n + 8, h, _ => by omega
set_option maxRecDepth 100000 in
set_option maxHeartbeats 4000000 in
theorem sourcesOf_any (t M k0 : Nat) (v : Value) (ops : List Rwo) (S : Wrt) (w : World) (hm : WMap w M k0 S) (ho : Opv w v ops) (hok : ∀ o ∈ ops, (0 ≤ o.v ∧ o.v ≤ 7) ∧ (Lit.int .i64 o.v).wf = true ∧ (Lit.int .i64 o.x).wf = true) (hk : ops.length ≤ 60) :
    Calls Tryd.prog 82 #[.int .i64 (t : Int), v, .map (some M)] w fun e w' => ∃ v', e = .returned v' ∧ w'.ownsRow w.heap.size 3 1 v' ops.length (ints (srcRow S t ops ops.length)) ∧ Below w.heap.size w w' := by
  obtain ⟨i0, hi0, hz0, hz1, hz2⟩ := info_parts info3
  obtain ⟨oa, oc, rfl, hoc⟩ := ho.len
  have HO := Lib.hid ho
  have HM := Lib.hid hm
  have HOK := Lib.hid hok
  have HSR := Lib.hid (fun (k : Nat) (hk : k < ops.length) => srcR_at (S := S) (t := t) hk)
  have HSN := Lib.hid (fun (k : Nat) => srcRow_snoc S t ops k)
  have HOT := Lib.hid (fun (k : Nat) (hk : k < ops.length) (v : Int) => owns_take hk v)
  have HA0 : Hid (At (w.alloc (.cells (bools8 fun _ => false) 142)) w.heap.size (bools8 (ownsB (ops.take 0))) 142) := At.new w _ _
  have HB0 := Lib.hid ((Below.refl w.heap.size w).alloc (Nat.le_refl _) (.cells (bools8 fun _ => false) 142))
  have HW0 : Hid ((w.alloc (.cells (bools8 fun _ => false) 142)).ownsRow w.heap.size 3 1 (.slice none 0 0) 0 (ints (srcRow S t ops 0))) := World.ownsRow_nil _ _ _ _
  clear ho hm hok
  unfold bools8 at HA0 HB0 HW0
  go_enter Tryd.func82, Tryd.ntmps82
  go_wp2_with fail
  go_loopw [8, 13] (fun z x wr => ∃ k : Nat, k ≤ ops.length ∧ x = .int .i64 k ∧ Hid (At wr w.heap.size (bools8 (ownsB (ops.take k))) 142) ∧ Hid (wr.ownsRow w.heap.size 3 1 z k (ints (srcRow S t ops k))) ∧ Hid (Below w.heap.size w wr)) (fun _ x _ => ops.length - (intOf x).toNat)
  case atStart => exact ⟨0, by omega, rfl, HA0, HW0, HB0⟩
  case round =>
    clear HA0 HW0 HB0
    obtain ⟨k, hkl, rfl, HA, HW, HB⟩ := hrel
    by_cases hlt : k < ops.length
    · obtain ⟨b, o, rfl, hbl, c0, c1, c2⟩ := Opv.at (HO.out.below HB.out (Nat.le_refl _)) k hlt
      have hwf := HOK.out _ (List.getElem_mem hlt)
      have hsr := HSR.out k hlt
      have hsn := HSN.out k
      have hot := HOT.out k hlt
      have HMW := Lib.hid (fun (W : World) (hW : Below w.heap.size w W) => HM.out.below hW)
      have hNW := HA.out.lt
      generalize ops[k] = O at *
      obtain ⟨ow, ov, ox⟩ := O
      dsimp only at *
      obtain ⟨j, rfl⟩ : ∃ j : Nat, ov = (j : Int) := ⟨ov.toNat, by omega⟩
      have hj8 : j < 8 := by omega
      have hj0 : (0 : Int) ≤ (j : Int) := by omega
      have hj1 : (j : Int) < 8 := by omega
      have HWF := Lib.hid hwf.2
      have HSN := Lib.hid hsn
      have HA2 := Lib.hid (HA.out.alloc (.cells #[.bool ow, .int .i64 (j : Int), .int .i64 ox] 89))
      have HB2 := Lib.hid (HB.out.alloc HB.out.size (.cells #[.bool ow, .int .i64 (j : Int), .int .i64 ox] 89))
      have HW2 := Lib.hid (HW.out.alloc (.cells #[.bool ow, .int .i64 (j : Int), .int .i64 ox] 89))
      have hfr := HA2.out.free j
      have hec := HA2.out.cell (bools8_at (ownsB (ops.take k)) j hj8)
      obtain ⟨za, zc, hz⟩ := row_slice HW.out
      subst hz
      have hlr : (ints (srcRow S t ops k)).length = k := by simp [ints, srcRow_len]
      have hkoc : (k : Int) ≤ (oc : Int) := by omega
      clear hwf hsn
      cases ow with
      | true =>
        have hs1 : srcR S t ops k = (t : Int) := by rw [hsr, if_pos (.inl rfl)]
        have hA3 := HA.out.set j (.bool true)
        rw [bools8_set (ownsB (ops.take k)) (ownsB (ops.take (k + 1))) j hj8 (fun u => by rw [hot u]; simp)] at hA3
        replace hA3 := hA3.alloc (.cells #[.bool true, .int .i64 (j : Int), .int .i64 ox] 89)
        have e0 := hA3.cell (bools8_at (ownsB (ops.take (k + 1))) j hj8)
        have hgj : ownsB (ops.take (k + 1)) (j : Int) = true := by rw [hot]; simp
        rw [hgj] at e0
        have hW3 := (own_only HW.out (Only.setCell (Only.refl (fun b => b = w.heap.size) wr) (p := ⟨w.heap.size, j, none⟩) (fun _ => rfl) (.bool true)) (fun b hb hc => by subst hc; exact row_not HW.out HA.out (by decide) hb)).alloc (.cells #[.bool true, .int .i64 (j : Int), .int .i64 ox] 89)
        have hB3 := (HB.out.setCell (p := ⟨w.heap.size, j, none⟩) (Nat.le_refl _) (.bool true)).alloc (by simpa [World.setCell] using HB.out.size) (.cells #[.bool true, .int .i64 (j : Int), .int .i64 ox] 89)
        have hE3 := At.new (wr.setCell ⟨w.heap.size, j, none⟩ (.bool true)) #[.bool true, .int .i64 (j : Int), .int .i64 ox] 89
        rw [show (wr.setCell ⟨w.heap.size, j, none⟩ (.bool true)).heap.size = wr.heap.size from by simp [World.setCell]] at hE3
        have e1 := hE3.cell (i := 1) (v := .int .i64 (j : Int)) rfl
        have HA3 := Lib.hid hA3
        have HW3 := Lib.hid hW3
        have HB3 := Lib.hid hB3
        rw [hs1] at HSN
        clear hs1 hsr hot hgj hA3 hW3 hB3 HA2 HW2 HB2 HMW hlr HA HB HW hE3
        go_upto_region 8 with fail
        generalize (wr.setCell ⟨w.heap.size, j, none⟩ (.bool true)).alloc (.cells #[.bool true, .int .i64 (j : Int), .int .i64 ox] 89) = w3 at *
        clear c0 c1 c2 hfr hec
        have HW4 := Lib.hid (HW3.out.alloc (.cells #[.int .i64 (t : Int)] 3))
        have HA4 := Lib.hid (HA3.out.alloc (.cells #[.int .i64 (t : Int)] 3))
        have HB4 := Lib.hid (HB3.out.alloc HB3.out.size (.cells #[.int .i64 (t : Int)] 3))
        go_wp2_with (at_builtin; refine wpList_append_own _ rfl _ _ 24 rfl w.heap.size 3 i0 (.int .i64 0) 1 8 Tryd.underlying24 hi0 hz0 hz1 hz2 rfl (by decide) (.slice za k zc) k (ints (srcRow S t ops k)) rfl HW4.out ⟨w3.heap.size, 0, none⟩ 1 1 [.int .i64 (t : Int)] rfl rfl (cell_one_at _ _ _) (one_int _ _) (by unfold maxLen; omega) (by omega) HB4.out.size ?_; intro v2 w4 ho2 hg2 _)
        have HA5 := Lib.hid (HA4.out.grown hg2 (fun hc => row_not HW4.out HA4.out (by decide) hc.symm))
        have HB5 := Lib.hid (HB4.out.grown hg2 HB4.out.size (fun x hx => (HW4.out.lt x hx).1))
        have HW5 : Hid (w4.ownsRow w.heap.size 3 1 v2 (k + 1) (ints (srcRow S t ops (k + 1)))) := by
          unfold Hid
          rw [HSN.out]
          simpa [ints] using ho2
        obtain ⟨v2a, v2c, hz⟩ := row_slice HW5.out
        subst hz
        clear ho2 hg2
        go_wp2
        go_roundw
        case rel => exact ⟨k + 1, by omega, by go_num, HA5, HW5, HB5⟩
        case measure => simp [intOf]; omega
      | false =>
        have hgj : ∀ u, ownsB (ops.take (k + 1)) u = ownsB (ops.take k) u := fun u => by rw [hot u]; simp
        have hff : ownsB (ops.take (k + 1)) = ownsB (ops.take k) := funext hgj
        have hE3 := At.new wr #[.bool false, .int .i64 (j : Int), .int .i64 ox] 89
        have e1 := hE3.cell (i := 1) (v := .int .i64 (j : Int)) rfl
        have HE3 := Lib.hid hE3
        have HA3 := Lib.hid HA2.out
        have HW3 := Lib.hid HW2.out
        have HB3 := Lib.hid HB2.out
        rw [← hff] at HA3
        clear hgj hff hot hlr HA HB HW HA2 HB2 HW2 hE3
        obtain ⟨r, hr⟩ : ∃ r, ownsB (ops.take k) (j : Int) = r := ⟨_, rfl⟩
        rw [hr] at hec hsr
        clear hr
        go_upto_region 8 with fail
        have e2 : (wr.alloc (.cells #[.bool false, .int .i64 (j : Int), .int .i64 ox] 89)).cell? ⟨wr.heap.size, 0, none⟩ = some (.bool false) := HE3.out.cell (i := 0) rfl
        have e3 : (wr.alloc (.cells #[.bool false, .int .i64 (j : Int), .int .i64 ox] 89)).cell? ⟨wr.heap.size, 2, none⟩ = some (.int .i64 ox) := HE3.out.cell (i := 2) rfl
        generalize wr.alloc (.cells #[.bool false, .int .i64 (j : Int), .int .i64 ox] 89) = w3 at *
        clear c0 c1 c2 hfr HE3
        cases r with
        | true =>
          have hs1 : srcR S t ops k = (t : Int) := by rw [hsr, if_pos (.inr rfl)]
          rw [hs1] at HSN
          clear hs1 hsr HMW
          have HW4 := Lib.hid (HW3.out.alloc (.cells #[.int .i64 (t : Int)] 3))
          have HA4 := Lib.hid (HA3.out.alloc (.cells #[.int .i64 (t : Int)] 3))
          have HB4 := Lib.hid (HB3.out.alloc HB3.out.size (.cells #[.int .i64 (t : Int)] 3))
          go_wp2_with (at_builtin; refine wpList_append_own _ rfl _ _ 24 rfl w.heap.size 3 i0 (.int .i64 0) 1 8 Tryd.underlying24 hi0 hz0 hz1 hz2 rfl (by decide) (.slice za k zc) k (ints (srcRow S t ops k)) rfl HW4.out ⟨w3.heap.size, 0, none⟩ 1 1 [.int .i64 (t : Int)] rfl rfl (cell_one_at _ _ _) (one_int _ _) (by unfold maxLen; omega) (by omega) HB4.out.size ?_; intro v2 w4 ho2 hg2 _)
          have HA5 := Lib.hid (HA4.out.grown hg2 (fun hc => row_not HW4.out HA4.out (by decide) hc.symm))
          have HB5 := Lib.hid (HB4.out.grown hg2 HB4.out.size (fun x hx => (HW4.out.lt x hx).1))
          have HW5 : Hid (w4.ownsRow w.heap.size 3 1 v2 (k + 1) (ints (srcRow S t ops (k + 1)))) := by
            unfold Hid
            rw [HSN.out]
            simpa [ints] using ho2
          obtain ⟨v2a, v2c, hz⟩ := row_slice HW5.out
          subst hz
          clear ho2 hg2
          go_wp2
          go_roundw
          case rel => exact ⟨k + 1, by omega, by go_num, HA5, HW5, HB5⟩
          case measure => simp [intOf]; omega
        | false =>
          have hs1 : srcR S t ops k = readW S t ⟨false, (j : Int), ox⟩ := by rw [hsr, if_neg (by simp)]
          rw [hs1] at HSN
          have HSO := Lib.hid (sourceOf_any t ⟨false, (j : Int), ox⟩ M k0 S w3 (HMW.out _ HB3.out) HWF.out.1 HWF.out.2)
          clear hs1 hsr HMW HWF
          generalize readW S t ⟨false, (j : Int), ox⟩ = y at *
          dsimp only at HSO
          go_wp2_with fail
          refine HSO.out.mono ?_
          rintro e w6 ⟨rfl, hb6⟩
          have HA6 := Lib.hid (HA3.out.below hb6 HA3.out.lt)
          have HW6 := Lib.hid (row_belowT HW3.out hb6)
          have HB6 := Lib.hid (HB3.out.trans (hb6.mono HB3.out.size))
          clear hb6 HA3 HW3 HB3 HSO e1 e2 e3 hec
          have HW4 := Lib.hid (HW6.out.alloc (.cells #[.int .i64 y] 3))
          have HA4 := Lib.hid (HA6.out.alloc (.cells #[.int .i64 y] 3))
          have HB4 := Lib.hid (HB6.out.alloc HB6.out.size (.cells #[.int .i64 y] 3))
          go_wp2_with (at_builtin; refine wpList_append_own _ rfl _ _ 24 rfl w.heap.size 3 i0 (.int .i64 0) 1 8 Tryd.underlying24 hi0 hz0 hz1 hz2 rfl (by decide) (.slice za k zc) k (ints (srcRow S t ops k)) rfl HW4.out ⟨w6.heap.size, 0, none⟩ 1 1 [.int .i64 y] rfl rfl (cell_one_at _ _ _) (one_int _ _) (by unfold maxLen; omega) (by omega) HB4.out.size ?_; intro v2 w4 ho2 hg2 _)
          have HA5 := Lib.hid (HA4.out.grown hg2 (fun hc => row_not HW4.out HA4.out (by decide) hc.symm))
          have HB5 := Lib.hid (HB4.out.grown hg2 HB4.out.size (fun x hx => (HW4.out.lt x hx).1))
          have HW5 : Hid (w4.ownsRow w.heap.size 3 1 v2 (k + 1) (ints (srcRow S t ops (k + 1)))) := by
            unfold Hid
            rw [HSN.out]
            simpa [ints] using ho2
          obtain ⟨v2a, v2c, hz⟩ := row_slice HW5.out
          subst hz
          clear ho2 hg2
          go_wp2
          go_roundw
          case rel => exact ⟨k + 1, by omega, by go_num, HA5, HW5, HB5⟩
          case measure => simp [intOf]; omega
    · obtain rfl : k = ops.length := by omega
      have HW5 := HW
      obtain ⟨za, zc, hz⟩ := row_slice HW.out
      subst hz
      clear HW
      go_wp2
      go_ret
      exact ⟨_, rfl, HW5.out, HB.out⟩
end Go.Proofs.YtmnblljenobofaaDoor
