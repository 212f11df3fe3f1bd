/- All that the statements use of the program's orders, as one structure of contracts over a representation. Conditions: none beyond those typed. -/
import Derived.Test.YtopjnalehllgcaaDoorRref4
import Derived.Test.YtopjnalehllgcaaDoorKout
import Derived.Test.YtopjnalehllgcaaDoorTab
namespace Go.Proofs.YtopjnalehllgcaaDoor
open Go.ChangeShapes Go.WideShapes Go.ChangeAt Go.RowKit
set_option linter.unusedVariables false
set_option linter.unusedSimpArgs false

/-- Order m lies in block g, with the base colour k. -/
abbrev RepR := Col → Nat → World → Nat → CSt Int → Prop
def DidPR (PR : RepR) (col : Col) (k : Nat) (w : World) (g : Nat) (m : CSt Int) (w' : World) : Prop := ∃ col', PR col' k w' g m ∧ StepC (Rng k) col w col' w'
def NewPR (PR : RepR) (col : Col) (k : Nat) (n : Int) (w : World) (e : Ending) (w' : World) : Prop :=
  (rnkE n = 0 ∧ ∃ g, e = .returned (.tuple #[.pointer (some ⟨g, 0, none⟩), .int .i64 0]) ∧ DidPR PR col k w g (newC Int n.toNat) w') ∨ (rnkE n = 1 ∧ e = .returned (.tuple #[.pointer none, .int .i64 1]) ∧ Below w.heap.size w w')
def U64 (z : Int) : Prop := 0 ≤ z ∧ z ≤ 18446744073709551615
structure ProgR (PR : RepR) : Prop where
  keep : ∀ {P : Nat → Prop} {col col' : Col} {w w' : World} {k g : Nat} {m : CSt Int}, PR col k w g m → StepC P col w col' w' → (∀ c, Rng k c → ¬ P c) → ¬ P 0 → PR col' k w' g m
  good : ∀ {col : Col} {w : World} {k g : Nat} {m : CSt Int}, PR col k w g m → GoodR m
  new : ∀ {col : Col} {k : Nat} {w : World}, Tidy col w → TbC col w → 1 ≤ k → ∀ n : Int, J64 n → Calls Tryd.prog 8 #[.int .i64 n] w (NewPR PR col k n w)
  ins : ∀ {col : Col} {k g : Nat} {w : World} {m : CSt Int}, PR col k w g m → Tidy col w → ∀ z x : Int, J64 z → U64 x → Calls Tryd.prog 13 #[.pointer (some ⟨g, 0, none⟩), .int .i64 z, .int .u64 x] w fun e w' => e = .returned (.int .i64 (m.insR z x).1) ∧ DidPR PR col k w g (m.insR z x).2 w'
  raise : ∀ {col : Col} {k g : Nat} {w : World} {m : CSt Int}, PR col k w g m → Tidy col w → ∀ z x : Int, J64 z → U64 x → Calls Tryd.prog 14 #[.pointer (some ⟨g, 0, none⟩), .int .i64 z, .int .u64 x] w fun e w' => e = .returned (.int .i64 (m.raiseR z x).1) ∧ DidPR PR col k w g (m.raiseR z x).2 w'
  rem : ∀ {col : Col} {k g : Nat} {w : World} {m : CSt Int}, PR col k w g m → Tidy col w → ∀ z : Int, J64 z → Calls Tryd.prog 10 #[.pointer (some ⟨g, 0, none⟩), .int .i64 z] w fun e w' => e = .returned (.tuple #[.int .u64 (m.value 0 z).1, .int .i64 (m.value 0 z).2]) ∧ DidPR PR col k w g (m.rem z) w'
  count : ∀ {col : Col} {k g : Nat} {w : World} {m : CSt Int}, PR col k w g m → Tidy col w → ∀ z : Int, J64 z → Calls Tryd.prog 11 #[.pointer (some ⟨g, 0, none⟩), .int .i64 z] w fun e w' => e = .returned (.tuple #[.int .u64 (m.countR z).1, .bool (m.countR z).2]) ∧ Below w.heap.size w w'
  least : ∀ {col : Col} {k g : Nat} {w : World} {m : CSt Int}, PR col k w g m → Tidy col w → Calls Tryd.prog 12 #[.pointer (some ⟨g, 0, none⟩)] w fun e w' => e = .returned (.tuple #[.int .i64 m.leastR.1.1, .int .u64 m.leastR.1.2, .bool m.leastR.2]) ∧ Below w.heap.size w w'
  len : ∀ {col : Col} {k g : Nat} {w : World} {m : CSt Int}, PR col k w g m → Tidy col w → Calls Tryd.prog 15 #[.pointer (some ⟨g, 0, none⟩)] w fun e w' => e = .returned (.int .i64 m.l.length) ∧ Below w.heap.size w w'
  order : ∀ {col : Col} {k g : Nat} {w : World} {m : CSt Int}, PR col k w g m → Tidy col w → Calls Tryd.prog 16 #[.pointer (some ⟨g, 0, none⟩)] w (RowOut kI w m.ns)
/-- What a nil order returns. -/
structure ProgRn : Prop where
  ins : ∀ (w : World) (z x : Int), Calls Tryd.prog 13 #[.pointer none, .int .i64 z, .int .u64 x] w fun e w' => e = .returned (.int .i64 8) ∧ Below w.heap.size w w'
  raise : ∀ (w : World) (z x : Int), Calls Tryd.prog 14 #[.pointer none, .int .i64 z, .int .u64 x] w fun e w' => e = .returned (.int .i64 8) ∧ Below w.heap.size w w'
  rem : ∀ (w : World) (z : Int), Calls Tryd.prog 10 #[.pointer none, .int .i64 z] w fun e w' => ∃ x : Int, e = .returned (.tuple #[.int .u64 x, .int .i64 8]) ∧ Below w.heap.size w w'
  count : ∀ (w : World) (z : Int), Calls Tryd.prog 11 #[.pointer none, .int .i64 z] w fun e w' => e = .returned (.tuple #[.int .u64 0, .bool false]) ∧ Below w.heap.size w w'
  least : ∀ w : World, Calls Tryd.prog 12 #[.pointer none] w fun e w' => e = .returned (.tuple #[.int .i64 0, .int .u64 0, .bool false]) ∧ Below w.heap.size w w'
  len : ∀ w : World, Calls Tryd.prog 15 #[.pointer none] w fun e w' => e = .returned (.int .i64 0) ∧ Below w.heap.size w w'
  order : ∀ w : World, Calls Tryd.prog 16 #[.pointer none] w fun e w' => ∃ A c, e = .returned (.slice A 0 c) ∧ Below w.heap.size w w'
/-- Nothing elder has turned, and an order. -/
structure AtR (PR : RepR) (w0 : World) (col : Col) (W : World) (k g : Nat) (m : CSt Int) : Prop where
  since : Since w0 col W
  pr : PR col k W g m
section
variable {PR : RepR} {w0 W W' : World} {col col' : Col} {k g : Nat} {m m' : CSt Int}
theorem ProgR.below (HP : ProgR PR) (h : PR col k W g m) (ht : Tidy col W) (hb : Below W.heap.size W W') : PR col k W' g m := HP.keep (P := fun _ => False) h (StepC.below ht hb) (fun _ _ h => h) (fun h => h)
theorem AtR.tidy (h : AtR PR w0 col W k g m) : Tidy col W := h.since.tidy
theorem AtR.below (HP : ProgR PR) (h : AtR PR w0 col W k g m) (hb : Below W.heap.size W W') : AtR PR w0 col W' k g m := ⟨h.since.belowL hb, HP.below h.pr h.tidy hb⟩
theorem AtR.did (h : AtR PR w0 col W k g m) (hk : 1 ≤ k) (hd : DidPR PR col k W g m' W') : ∃ col', AtR PR w0 col' W' k g m' := by
  obtain ⟨col', h1, s⟩ := hd
  exact ⟨col', h.since.step s (rng0 hk), h1⟩
end
end Go.Proofs.YtopjnalehllgcaaDoor
