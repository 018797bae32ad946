/- The walk of Check. -/
import Derived.Test.YtpbkieeheepelaaDoorPrpD
namespace Go.Proofs.YtpbkieeheepelaaDoor.WPlain
end Go.Proofs.YtpbkieeheepelaaDoor.WPlain
namespace Go.Proofs.YtpbkieeheepelaaDoor.QPlain
end Go.Proofs.YtpbkieeheepelaaDoor.QPlain
namespace Go.Proofs.YtpbkieeheepelaaDoor
open Go.RowKit WPlain QPlain

theorem check_any (v : Value) (h : List Ev) (w : World) (hK : HasK w) (hv : Evs w v h) (hl : h.length ≤ 65536) :
    Calls Tryd.prog 20 #[v] w fun e w' => e = .returned (.tuple #[.int .i64 ((checkS h).1 : Nat), .int .i64 ((checkS h).2 : Nat)]) ∧ Below w.heap.size w w' := by
  have HF := Lib.hid (follow_any v h w hK hv hl)
  obtain ⟨a, c, rfl⟩ := hv.len
  clear hv hK
  unfold Fol at HF
  generalize checkS h = C at *
  generalize flw0 h = Z at *
  obtain ⟨n, er⟩ := C
  dsimp only at HF ⊢
  go_enter Tryd.func20, Tryd.ntmps20
  go_wp2_with fail
  refine HF.out.mono ?_
  rintro e w1 ⟨hb, h1, h2⟩
  by_cases h0 : er = 0
  · obtain ⟨S, m, rfl, _⟩ := h2 h0
    subst h0
    clear h1 h2
    go_wp2
    exact bodyPost_ret (v := .tuple #[.int .i64 n, .int .i64 0]) (by simp [results, Tryd.results20, go_sem]) rfl ⟨rfl, hb⟩
  · obtain rfl := h1 h0
    clear h1 h2
    go_wp2
    exact bodyPost_ret (v := .tuple #[.int .i64 n, .int .i64 er]) (by simp [results, Tryd.results20, go_sem]) rfl ⟨rfl, hb⟩
end Go.Proofs.YtpbkieeheepelaaDoor
