/- The statements about package frequent: a deck beside a table. Conditions: the program's tables keep their contracts (ProgF). -/
import Derived.Test.YtgkokglngpbamaaGawake
namespace Go.Proofs.Ytgkokglngpbamaa
open Go.ChangeShapes Go.WideShapes Go.ChangeAt Go.RowKit
set_option linter.unusedVariables false
set_option linter.unusedSimpArgs false
set_option maxRecDepth 100000

/-- A deck, and the program's table. -/
structure DkF (PT : RepF) (w : World) (gd : Nat) (A : Option Addr) (m d g : Nat) (col : Col) (t : TSt) (W : World) : Prop where
  ds : DkS w col W gd A m d
  pt : PT col 16 W g t
section
variable {PT : RepF} {w W W' : World} {gd m d g : Nat} {A : Option Addr} {col col' : Col} {t t' : TSt}
theorem DkF.at_ (h : DkF PT w gd A m d g col t W) : AtF PT w col W 16 g t := ⟨h.ds.since, h.pt⟩
theorem DkF.tidy (h : DkF PT w gd A m d g col t W) : Tidy col W := h.ds.tidy
theorem DkF.start (HP : ProgF PT) (h : AtF PT w col W 16 g t) (hA : RdI w A m d) : DkF PT w W.heap.size A m d g (dye col (some W.heap.size) 1) t (W.alloc (.cells #[.slice A m d, .int .i64 0] 77)) := by
  have s := StepC.new h.tidy (.cells #[.slice A m d, .int .i64 0] 77) 1 (fun _ => False)
  have hs := h.since.step s (fun h => h)
  exact ⟨⟨hs, ⟨hA, hs.below, h.since.below.size, 0, heap_alloc_new W _, Nat.zero_le _⟩, dye_of⟩, HP.keep h.pt s (fun _ _ h => h) (fun h => h)⟩
theorem DkF.below (HP : ProgF PT) (h : DkF PT w gd A m d g col t W) (hb : Below W.heap.size W W') : DkF PT w gd A m d g col t W' := ⟨h.ds.below hb, HP.below h.pt h.tidy hb⟩
theorem DkF.did (h : DkF PT w gd A m d g col t W) (hd : DidPF PT col 16 W g t' W') : ∃ col', DkF PT w gd A m d g col' t' W' := by
  obtain ⟨col', h1, s⟩ := hd
  exact ⟨col', h.ds.step s (by unfold Rng; omega) (rng0 (by omega)), h1⟩
theorem DkF.deck (HP : ProgF PT) (h : DkF PT w gd A m d g col t W) (hD : Dk w W' gd A m d) (hg : W.grownBy W' (some gd)) : DkF PT w gd A m d g col t W' := by
  obtain ⟨h1, s⟩ := h.ds.deck hD hg
  exact ⟨h1, HP.keep h.pt s (fun c hc e => by have := hc.1; omega) (by omega)⟩
theorem short_sz' {s : ByteArray} (h : 2 ≤ s.size ∧ s.size ≤ 3) : Sz s := by unfold Sz; omega
end
end Go.Proofs.Ytgkokglngpbamaa
