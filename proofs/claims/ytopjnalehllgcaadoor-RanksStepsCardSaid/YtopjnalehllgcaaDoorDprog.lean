/- All that the statements use of the program's lists, as structures of contracts over a representation. Conditions: none beyond those typed. -/
import Derived.Test.YtopjnalehllgcaaDoorDref3
import Derived.Test.YtopjnalehllgcaaDoorKout
import Derived.Test.YtopjnalehllgcaaDoorTab
namespace Go.Proofs.YtopjnalehllgcaaDoor
open Go.ChangeShapes Go.WideShapes Go.ChangeAt Go.RowKit
set_option linter.unusedVariables false
set_option linter.unusedSimpArgs false

/-- List m lies in block g, with the base colour k. -/
abbrev RepL (α : Type) := Col → Nat → World → Nat → CSt α → Prop
def DidPL {α : Type} (PL : RepL α) (col : Col) (k : Nat) (w : World) (g : Nat) (m : CSt α) (w' : World) : Prop := ∃ col', PL col' k w' g m ∧ StepC (Rng k) col w col' w'
def NewPL {α : Type} (PL : RepL α) (col : Col) (k : Nat) (n : Int) (w : World) (e : Ending) (w' : World) : Prop :=
  (lstE n = 0 ∧ ∃ g, e = .returned (.tuple #[.pointer (some ⟨g, 0, none⟩), .int .i64 0]) ∧ DidPL PL col k w g (newC α n.toNat) w') ∨ (lstE n = 1 ∧ e = .returned (.tuple #[.pointer none, .int .i64 1]) ∧ Below w.heap.size w w')
def AddOut {α : Type} (PL : RepL α) (col : Col) (k : Nat) (w : World) (g : Nat) (r : (Int × Int) × CSt α) (e : Ending) (w' : World) : Prop := e = .returned (.tuple #[.int .i64 r.1.1, .int .i64 r.1.2]) ∧ DidPL PL col k w g r.2 w'
/-- V: how a value lies; ok: the values that a node bears; fN, fB, fX: New, PushBack, Values. -/
structure ProgL {α : Type} (K : Kind α) (V : α → Value) (ok : α → Prop) (fN fB fX : Nat) (PL : RepL α) : Prop where
  keep : ∀ {P : Nat → Prop} {col col' : Col} {w w' : World} {k g : Nat} {m : CSt α}, PL col k w g m → StepC P col w col' w' → (∀ c, Rng k c → ¬ P c) → ¬ P 0 → PL col' k w' g m
  good : ∀ {col : Col} {w : World} {k g : Nat} {m : CSt α}, PL col k w g m → GoodC m
  new : ∀ {col : Col} {k : Nat} {w : World}, Tidy col w → TbC col w → 1 ≤ k → ∀ n : Int, J64 n → Calls Tryd.prog fN #[.int .i64 n] w (NewPL PL col k n w)
  pushB : ∀ {col : Col} {k g : Nat} {w : World} {m : CSt α}, PL col k w g m → Tidy col w → ∀ v : α, ok v → Calls Tryd.prog fB #[.pointer (some ⟨g, 0, none⟩), V v] w (AddOut PL col k w g (m.pushB v))
  vals : ∀ {col : Col} {k g : Nat} {w : World} {m : CSt α}, PL col k w g m → Tidy col w → Calls Tryd.prog fX #[.pointer (some ⟨g, 0, none⟩)] w (RowOut K w m.vals)
abbrev ProgL0 (PL : RepL Int) : Prop := ProgL kI (fun z : Int => Value.int .i64 z) J64 56 47 34 PL
section
variable {α : Type} {PL : RepL α} {W W' : World} {col : Col} {k g : Nat} {m : CSt α} {K : Kind α} {V : α → Value} {ok : α → Prop} {fN fB fX : Nat}
theorem ProgL.below (HP : ProgL K V ok fN fB fX PL) (h : PL col k W g m) (ht : Tidy col W) (hb : Below W.heap.size W W') : PL col k W' g m := HP.keep (P := fun _ => False) h (StepC.below ht hb) (fun _ _ h => h) (fun h => h)
end
end Go.Proofs.YtopjnalehllgcaaDoor
