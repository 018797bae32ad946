/- The walks of the reader's names and numbers. -/
import Derived.Test.YtgdijlmfpboecaaDoorBinC
namespace Go.Proofs.YtgdijlmfpboecaaDoor.WPlain
end Go.Proofs.YtgdijlmfpboecaaDoor.WPlain
namespace Go.Proofs.YtgdijlmfpboecaaDoor.VPlain
end Go.Proofs.YtgdijlmfpboecaaDoor.VPlain
namespace Go.Proofs.YtgdijlmfpboecaaDoor
open Go.RowKit WPlain VPlain BPlain

/-- a reader in block g, at place i of the bytes L, that has read the events h; what it stands on lies below B, its own from there on -/
structure Rdg (B : Nat) (w : World) (g i : Nat) (v : Value) (a : Option Addr) (c : Nat) (L : List Nat) (h : List Ev) : Prop where
  at_ : At w g (rdr i v (.slice a L.length c)) 36
  bin : Bin B w a c L
  low : B ≤ g
  kinds : HasK w
  klow : 0 < B
  base : B ≤ w.heap.size
  own : w.ownsRow B 44 4 v h.length (evsCells h)
  few : h.length ≤ 60
  place : i ≤ L.length
theorem HasK.low {B : Nat} {w w' : World} (h : HasK w) (hb : Below B w w') (hk : 0 < B) : HasK w' :=
  fun j v hj => (hb.cell (p := ⟨0, j, none⟩) hk).trans (h j v hj)
theorem Rdg.row_ne {B : Nat} {w : World} {g i : Nat} {v : Value} {a : Option Addr} {c : Nat} {L : List Nat} {h : List Ev} (r : Rdg B w g i v a c L h) {k : Nat} (hk : v.ownBlock = some k) : k ≠ g := by
  rintro rfl
  exact row_not r.own r.at_ (by decide) hk
theorem Rdg.turn {B : Nat} {w w' : World} {g i i' : Nat} {v : Value} {a : Option Addr} {c : Nat} {L : List Nat} {h : List Ev} (r : Rdg B w g i v a c L h) {s : Nat → Prop} (ho : Only s w w')
    (hs : ∀ k, k < w.heap.size → s k → B ≤ k) (hv : ∀ k, v.ownBlock = some k → ¬ s k) (hA : At w' g (rdr i' v (.slice a L.length c)) 36) (hi : i' ≤ L.length) : Rdg B w' g i' v a c L h :=
  have hb := ho.below r.base hs
  ⟨hA, r.bin.below hb, r.low, r.kinds.low hb r.klow, r.klow, Nat.le_trans r.base hb.size, own_only r.own ho hv, r.few, hi⟩
theorem Rdg.call {B : Nat} {w w' : World} {g i : Nat} {v : Value} {a : Option Addr} {c : Nat} {L : List Nat} {h : List Ev} (r : Rdg B w g i v a c L h) (hb : Below w.heap.size w w') : Rdg B w' g i v a c L h :=
  r.turn (s := fun _ => False) (Only.of_below hb) (fun _ _ hf => hf.elim) (fun _ _ hf => hf) (r.at_.below hb r.at_.lt) r.place
theorem Rdg.evs {B : Nat} {w : World} {g i : Nat} {v : Value} {a : Option Addr} {c : Nat} {L : List Nat} {h : List Ev} (r : Rdg B w g i v a c L h) : Evs w v h := Evs.of_row r.own
theorem Rdg.src {B : Nat} {w : World} {g i : Nat} {v : Value} {a : Option Addr} {c : Nat} {L : List Nat} {h : List Ev} (r : Rdg B w g i v a c L h) : Src v := Src.of_row r.own
/-- a number is read -/
theorem Rdg.one {B : Nat} {w w' : World} {g i i' : Nat} {v : Value} {a : Option Addr} {c : Nat} {L : List Nat} {h : List Ev} (r : Rdg B w g i v a c L h) (ho : Only (· = g) w w') (hA : At w' g (rdr i' v (.slice a L.length c)) 36) (hi : i' ≤ L.length) : Rdg B w' g i' v a c L h :=
  r.turn ho (fun k _ hk => by rw [hk]; exact r.low) (fun k hk => r.row_ne hk) hA hi
theorem rup_any {B : Nat} {w : World} {g i : Nat} {v : Value} {a : Option Addr} {c : Nat} {L : List Nat} {h : List Ev} (r : Rdg B w g i v a c L h) (most bey : Nat) (hm : most < 4294967296) :
    Calls Tryd.prog 11 #[.pointer (some ⟨g, 0, none⟩), .int .u64 most, .int .i64 bey] w fun e w' =>
      e = .returned (.tuple #[.int .u64 ((upS L i most bey).1 : Nat), .int .i64 ((upS L i most bey).2.2 : Nat)]) ∧ Rdg B w' g (upS L i most bey).2.1 v a c L h ∧ Only (· = g) w w' :=
  (upTo_any g i v B a c L w r.at_ r.bin r.place most bey hm).mono fun _ _ ⟨h1, h2, h3⟩ => ⟨h1, r.one h3 h2 (upS_le most bey r.place).2, h3⟩
theorem rfault_any {B : Nat} {w : World} {g i : Nat} {v : Value} {a : Option Addr} {c : Nat} {L : List Nat} {h : List Ev} (r : Rdg B w g i v a c L h) (p er : Nat) (hp : p ≤ L.length) :
    Calls Tryd.prog 17 #[.pointer (some ⟨g, 0, none⟩), .int .i64 p, .int .i64 er] w fun e w' => e = .returned (.int .i64 er) ∧ Rdg B w' g p v a c L h ∧ Only (· = g) w w' :=
  (fault_put g i v _ _ p er w r.at_).mono fun _ _ ⟨h1, h2, h3⟩ => ⟨h1, r.one h3 h2 hp, h3⟩

/-- the event's cells, if all went well -/
def When (er : Nat) (w : World) (q : Nat) (cs : Array Value) : Prop := er = 0 → At w q cs 44
theorem When.no {er : Nat} {w : World} {q : Nat} {cs : Array Value} (h : er ≠ 0) : When er w q cs := fun h0 => absurd h0 h

set_option maxRecDepth 100000 in
theorem readName_any {B : Nat} {w : World} {g i : Nat} {v : Value} {a : Option Addr} {c : Nat} {L : List Nat} {h : List Ev} (r : Rdg B w g i v a c L h) (q : Nat) (k : Int)
    (hE : At w q #[.int .i64 k, .int .i64 0, .int .i64 0, .int .i64 0] 44) (hq : B ≤ q) (hgq : g ≠ q) (hvq : ∀ b, v.ownBlock = some b → b ≠ q) :
    Calls Tryd.prog 29 #[.pointer (some ⟨g, 0, none⟩), .pointer (some ⟨q, 0, none⟩)] w fun e w' =>
      e = .returned (.int .i64 ((nameS L i h).2.2 : Nat)) ∧ Rdg B w' g (nameS L i h).2.1 v a c L h ∧ When (nameS L i h).2.2 w' q #[.int .i64 k, .int .i64 ((nameS L i h).1 : Nat), .int .i64 0, .int .i64 0] ∧ Only (fun b => b = g ∨ b = q) w w' := by
  have hN := rup_any r 9999 3 (by omega)
  have hmost := @upS_most L i 9999 3
  obtain ⟨z, hz⟩ : ∃ z, nameS L i h = z := ⟨_, rfl⟩
  have hz' := hz
  unfold nameS at hz'
  rw [hz]
  obtain ⟨p, hp⟩ : ∃ p, upS L i 9999 3 = p := ⟨_, rfl⟩
  obtain ⟨n, u, er⟩ := p
  rw [hp] at hN hz' hmost
  dsimp only at hz' hmost
  have HN := Lib.hid hN
  have HE := Lib.hid hE
  have hc0 := r.at_.cell (i := 0) (v := .int .i64 (i : Int)) rfl
  have R := Lib.hid r
  clear hN hz hp r hE
  by_cases h0 : er = 0
  · have hn : n ≤ 9999 := hmost h0 (by decide)
    subst h0
    rw [if_neg (by decide)] at hz'
    cases hrt : right (h ++ [⟨0, n, 0, 0⟩]) with
    | true =>
      rw [hrt, if_pos rfl] at hz'
      subst hz'
      have HRT := Lib.hid hrt
      clear hrt hmost
      go_enter Tryd.func29, Tryd.ntmps29
      go_wp2_with fail
      refine HN.out.mono ?_
      rintro e w1 ⟨rfl, r1, ho1⟩
      have R1 := Lib.hid r1
      have HE1 := Lib.hid (HE.out.only ho1 (fun hh => hgq hh.symm))
      have hlt1 := HE1.out.lt
      clear r1
      go_wp2_with fail
      refine (mayName_any g _ v _ _ h n w1 R1.out.at_ R1.out.kinds R1.out.evs R1.out.src R1.out.few).mono ?_
      rintro e w2 ⟨rfl, hb2⟩
      rw [HRT.out]
      have HE2 := Lib.hid (HE1.out.below hb2 hlt1)
      have R2 := Lib.hid (R1.out.call hb2)
      have HO2 := Lib.hid ((ho1.mono (t := fun b => b = g ∨ b = q) (fun _ _ => .inl)).call hb2)
      have hx1 := HE2.out.cell (i := 1) (v := .int .i64 0) rfl
      have hxf := HE2.out.free 1
      clear hb2 ho1
      go_wp2
      go_ret
      have HO3 : Only (fun b => b = q) w2 (w2.setCell ⟨q, 1, none⟩ (.int .i64 (n : Int))) := (Only.refl (· = q) w2).setCell (p := ⟨q, 1, none⟩) (fun _ => rfl) _
      exact ⟨rfl, R2.out.turn HO3 (fun _ _ hk => by rw [hk]; exact hq) hvq (R2.out.at_.only HO3 hgq) R2.out.place, fun _ => HE2.out.set 1 _, HO2.out.trans HO3 (fun _ _ hk => .inr hk)⟩
    | false =>
      rw [hrt, if_neg (by decide)] at hz'
      subst hz'
      have HRT := Lib.hid hrt
      clear hrt hmost
      go_enter Tryd.func29, Tryd.ntmps29
      go_wp2_with fail
      refine HN.out.mono ?_
      rintro e w1 ⟨rfl, r1, ho1⟩
      have R1 := Lib.hid r1
      clear r1
      go_wp2_with fail
      refine (mayName_any g _ v _ _ h n w1 R1.out.at_ R1.out.kinds R1.out.evs R1.out.src R1.out.few).mono ?_
      rintro e w2 ⟨rfl, hb2⟩
      rw [HRT.out]
      have R2 := Lib.hid (R1.out.call hb2)
      have HO2 := Lib.hid ((ho1.mono (t := fun b => b = g ∨ b = q) (fun _ _ => .inl)).call hb2)
      clear hb2 ho1
      go_wp2_with fail
      refine (rfault_any R2.out i 5 R.out.place).mono ?_
      rintro e w3 ⟨rfl, r3, ho3⟩
      go_wp2
      go_ret
      exact ⟨rfl, r3, When.no (by decide), HO2.out.trans ho3 (fun _ _ hk => .inl hk)⟩
  · rw [if_pos h0] at hz'
    subst hz'
    have hne : ((er : Int) != 0) = true := by simp; omega
    clear hmost
    go_enter Tryd.func29, Tryd.ntmps29
    go_wp2_with fail
    refine HN.out.mono ?_
    rintro e w1 ⟨rfl, r1, ho1⟩
    go_wp2
    go_ret
    exact ⟨rfl, r1, When.no h0, ho1.mono (fun _ _ => .inl)⟩

end Go.Proofs.YtgdijlmfpboecaaDoor
