/- All that the statements use of the program's lists, as structures of contracts over a representation. Conditions: none beyond those typed. -/
import Derived.Test.YtfbddcbbkfklnaaDoorDref3
import Derived.Test.YtfbddcbbkfklnaaDoorKout
import Derived.Test.YtfbddcbbkfklnaaDoorTab
namespace Go.Proofs.YtfbddcbbkfklnaaDoor
open Go.ChangeShapes Go.WideShapes Go.ChangeAt Go.RowKit
set_option linter.unusedVariables false
set_option linter.unusedSimpArgs false

/-- List m lies in block g, with the base colour k. -/
abbrev RepL (α : Type) := Col → Nat → World → Nat → CSt α → Prop
def DidPL {α : Type} (PL : RepL α) (col : Col) (k : Nat) (w : World) (g : Nat) (m : CSt α) (w' : World) : Prop := ∃ col', PL col' k w' g m ∧ StepC (Rng k) col w col' w'
def NewPL {α : Type} (PL : RepL α) (col : Col) (k : Nat) (n : Int) (w : World) (e : Ending) (w' : World) : Prop :=
  (lstE n = 0 ∧ ∃ g, e = .returned (.tuple #[.pointer (some ⟨g, 0, none⟩), .int .i64 0]) ∧ DidPL PL col k w g (newC α n.toNat) w') ∨ (lstE n = 1 ∧ e = .returned (.tuple #[.pointer none, .int .i64 1]) ∧ Below w.heap.size w w')
def AddOut {α : Type} (PL : RepL α) (col : Col) (k : Nat) (w : World) (g : Nat) (r : (Int × Int) × CSt α) (e : Ending) (w' : World) : Prop := e = .returned (.tuple #[.int .i64 r.1.1, .int .i64 r.1.2]) ∧ DidPL PL col k w g r.2 w'
/-- V: how a value lies; ok: the values that a node bears; fN, fB, fX: New, PushBack, Values. -/
structure ProgL {α : Type} (K : Kind α) (V : α → Value) (ok : α → Prop) (fN fB fX : Nat) (PL : RepL α) : Prop where
  keep : ∀ {P : Nat → Prop} {col col' : Col} {w w' : World} {k g : Nat} {m : CSt α}, PL col k w g m → StepC P col w col' w' → (∀ c, Rng k c → ¬ P c) → ¬ P 0 → PL col' k w' g m
  good : ∀ {col : Col} {w : World} {k g : Nat} {m : CSt α}, PL col k w g m → GoodC m
  new : ∀ {col : Col} {k : Nat} {w : World}, Tidy col w → TbC col w → 1 ≤ k → ∀ n : Int, J64 n → Calls Tryd.prog fN #[.int .i64 n] w (NewPL PL col k n w)
  pushB : ∀ {col : Col} {k g : Nat} {w : World} {m : CSt α}, PL col k w g m → Tidy col w → ∀ v : α, ok v → Calls Tryd.prog fB #[.pointer (some ⟨g, 0, none⟩), V v] w (AddOut PL col k w g (m.pushB v))
  vals : ∀ {col : Col} {k g : Nat} {w : World} {m : CSt α}, PL col k w g m → Tidy col w → Calls Tryd.prog fX #[.pointer (some ⟨g, 0, none⟩)] w (RowOut K w m.vals)
abbrev ProgL0 (PL : RepL Int) : Prop := ProgL kI (fun z : Int => Value.int .i64 z) J64 7 21 31 PL
/-- Lists of numbers. -/
structure ProgLi (PL : RepL Int) : Prop where
  all : ProgL0 PL
  pushF : ∀ {col : Col} {k g : Nat} {w : World} {m : CSt Int}, PL col k w g m → Tidy col w → ∀ v : Int, J64 v → Calls Tryd.prog 23 #[.pointer (some ⟨g, 0, none⟩), .int .i64 v] w (AddOut PL col k w g (m.pushF v))
  insA : ∀ {col : Col} {k g : Nat} {w : World} {m : CSt Int}, PL col k w g m → Tidy col w → ∀ z v : Int, J64 z → J64 v → Calls Tryd.prog 24 #[.pointer (some ⟨g, 0, none⟩), .int .i64 z, .int .i64 v] w (AddOut PL col k w g (m.insA z v))
  rem : ∀ {col : Col} {k g : Nat} {w : World} {m : CSt Int}, PL col k w g m → Tidy col w → ∀ z : Int, J64 z → Calls Tryd.prog 26 #[.pointer (some ⟨g, 0, none⟩), .int .i64 z] w (AddOut PL col k w g (m.value 0 z, m.rem z))
  val : ∀ {col : Col} {k g : Nat} {w : World} {m : CSt Int}, PL col k w g m → Tidy col w → ∀ z : Int, J64 z → Calls Tryd.prog 28 #[.pointer (some ⟨g, 0, none⟩), .int .i64 z] w fun e w' => e = .returned (.tuple #[.int .i64 (m.value 0 z).1, .int .i64 (m.value 0 z).2]) ∧ Below w.heap.size w w'
  next : ∀ {col : Col} {k g : Nat} {w : World} {m : CSt Int}, PL col k w g m → Tidy col w → ∀ z : Int, J64 z → Calls Tryd.prog 33 #[.pointer (some ⟨g, 0, none⟩), .int .i64 z] w fun e w' => e = .returned (.int .i64 (m.by_ z 1)) ∧ Below w.heap.size w w'
  prev : ∀ {col : Col} {k g : Nat} {w : World} {m : CSt Int}, PL col k w g m → Tidy col w → ∀ z : Int, J64 z → Calls Tryd.prog 35 #[.pointer (some ⟨g, 0, none⟩), .int .i64 z] w fun e w' => e = .returned (.int .i64 (m.by_ z (-1))) ∧ Below w.heap.size w w'
  first : ∀ {col : Col} {k g : Nat} {w : World} {m : CSt Int}, PL col k w g m → Tidy col w → Calls Tryd.prog 36 #[.pointer (some ⟨g, 0, none⟩)] w fun e w' => e = .returned (.int .i64 m.first) ∧ ∃ j, w' = w.drewN j
  last : ∀ {col : Col} {k g : Nat} {w : World} {m : CSt Int}, PL col k w g m → Tidy col w → Calls Tryd.prog 37 #[.pointer (some ⟨g, 0, none⟩)] w fun e w' => e = .returned (.int .i64 m.last) ∧ ∃ j, w' = w.drewN j
  len : ∀ {col : Col} {k g : Nat} {w : World} {m : CSt Int}, PL col k w g m → Tidy col w → Calls Tryd.prog 32 #[.pointer (some ⟨g, 0, none⟩)] w fun e w' => e = .returned (.int .i64 m.l.length) ∧ Below w.heap.size w w'
/-- Lists of texts. -/
abbrev ProgLs (PL : RepL ByteArray) : Prop := ProgL kT (fun z : ByteArray => Value.string z) (fun _ => True) 38 9 19 PL
/-- What a nil list of texts returns. -/
structure ProgLn : Prop where
  pushB : ∀ (w : World) (s : ByteArray), Calls Tryd.prog 9 #[.pointer none, .string s] w fun e w' => ∃ z : Int, e = .returned (.tuple #[.int .i64 z, .int .i64 8]) ∧ Below w.heap.size w w'
  pushF : ∀ (w : World) (s : ByteArray), Calls Tryd.prog 10 #[.pointer none, .string s] w fun e w' => ∃ z : Int, e = .returned (.tuple #[.int .i64 z, .int .i64 8]) ∧ Below w.heap.size w w'
  insA : ∀ (w : World) (s : ByteArray), Calls Tryd.prog 11 #[.pointer none, .int .i64 0, .string s] w fun e w' => ∃ z : Int, e = .returned (.tuple #[.int .i64 z, .int .i64 8]) ∧ Below w.heap.size w w'
  rem : ∀ w : World, Calls Tryd.prog 12 #[.pointer none, .int .i64 0] w fun e w' => ∃ z : ByteArray, e = .returned (.tuple #[.string z, .int .i64 8]) ∧ Below w.heap.size w w'
  val : ∀ w : World, Calls Tryd.prog 13 #[.pointer none, .int .i64 0] w fun e w' => ∃ z : ByteArray, e = .returned (.tuple #[.string z, .int .i64 8]) ∧ Below w.heap.size w w'
  next : ∀ w : World, Calls Tryd.prog 14 #[.pointer none, .int .i64 0] w fun e w' => e = .returned (.int .i64 (-1)) ∧ Below w.heap.size w w'
  prev : ∀ w : World, Calls Tryd.prog 15 #[.pointer none, .int .i64 0] w fun e w' => e = .returned (.int .i64 (-1)) ∧ Below w.heap.size w w'
  first : ∀ w : World, Calls Tryd.prog 16 #[.pointer none] w fun e w' => e = .returned (.int .i64 (-1)) ∧ Below w.heap.size w w'
  last : ∀ w : World, Calls Tryd.prog 17 #[.pointer none] w fun e w' => e = .returned (.int .i64 (-1)) ∧ Below w.heap.size w w'
  len : ∀ w : World, Calls Tryd.prog 18 #[.pointer none] w fun e w' => e = .returned (.int .i64 0) ∧ Below w.heap.size w w'
  vals : ∀ w : World, Calls Tryd.prog 19 #[.pointer none] w fun e w' => ∃ A c, e = .returned (.slice A 0 c) ∧ Below w.heap.size w w'
section
variable {α : Type} {PL : RepL α} {W W' : World} {col : Col} {k g : Nat} {m : CSt α} {K : Kind α} {V : α → Value} {ok : α → Prop} {fN fB fX : Nat}
theorem ProgL.below (HP : ProgL K V ok fN fB fX PL) (h : PL col k W g m) (ht : Tidy col W) (hb : Below W.heap.size W W') : PL col k W' g m := HP.keep (P := fun _ => False) h (StepC.below ht hb) (fun _ _ h => h) (fun h => h)
end
end Go.Proofs.YtfbddcbbkfklnaaDoor
