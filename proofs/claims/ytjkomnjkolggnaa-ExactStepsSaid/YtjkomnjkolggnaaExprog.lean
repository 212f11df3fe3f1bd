/- All that the statements use of the program's exact counters, as structures of contracts over a representation. Conditions: none beyond those typed. -/
import Derived.Test.YtjkomnjkolggnaaSvent
import Derived.Test.YtjkomnjkolggnaaExref
import Derived.Test.YtjkomnjkolggnaaExref2
import Derived.Test.YtjkomnjkolggnaaExref3
import Derived.Test.YtjkomnjkolggnaaExref4
import Derived.Test.YtjkomnjkolggnaaExref5
namespace Go.Proofs.Ytjkomnjkolggnaa
open Go.ChangeShapes Go.WideShapes Go.ChangeAt Go.RowKit
set_option linter.unusedVariables false
set_option linter.unusedSimpArgs false

/-- Store t lies in block g, with the base colour k. -/
abbrev RepX := Col → Nat → World → Nat → ExSt → Prop
def DidPX (PX : RepX) (col : Col) (k : Nat) (w : World) (g : Nat) (t : ExSt) (w' : World) : Prop := ∃ col', PX col' k w' g t ∧ StepC (Rng k) col w col' w'
def NewPX (PX : RepX) (col : Col) (k : Nat) (n : Int) (w : World) (e : Ending) (w' : World) : Prop :=
  (xsE n = 0 ∧ ∃ g, e = .returned (.tuple #[.pointer (some ⟨g, 0, none⟩), .int .i64 0]) ∧ DidPX PX col k w g (newX n.toNat) w') ∨ (xsE n = 1 ∧ e = .returned (.tuple #[.pointer none, .int .i64 1]) ∧ Below w.heap.size w w')
structure ProgX (PX : RepX) : Prop where
  keep : ∀ {P : Nat → Prop} {col col' : Col} {w w' : World} {k g : Nat} {t : ExSt}, PX col k w g t → StepC P col w col' w' → (∀ c, Rng k c → ¬ P c) → ¬ P 0 → PX col' k w' g t
  good : ∀ {col : Col} {w : World} {k g : Nat} {t : ExSt}, PX col k w g t → GoodX t
  new : ∀ {col : Col} {k : Nat} {w : World}, Tidy col w → 1 ≤ k → ∀ n : Int, J64 n → Calls Try.prog 7 #[.int .i64 n] w (NewPX PX col k n w)
  put : ∀ {col : Col} {k g : Nat} {w : World} {t : ExSt}, PX col k w g t → Tidy col w → ∀ e : En, Sz e.1 → W64 e.2.1 → W64 e.2.2 → Calls Try.prog 12 #[.pointer (some ⟨g, 0, none⟩), .agg (VE e)] w fun r w' => r = .returned (.int .i64 (t.put e).1) ∧ DidPX PX col k w g (t.put e).2 w'
  add : ∀ {col : Col} {k g : Nat} {w : World} {t : ExSt}, PX col k w g t → Tidy col w → ∀ (s : ByteArray) (x : Int), Sz s → W64 x → Calls Try.prog 13 #[.pointer (some ⟨g, 0, none⟩), .string s, .int .u64 x] w fun e w' => e = .returned (.int .i64 (t.add s x).1) ∧ DidPX PX col k w g (t.add s x).2 w'
  get : ∀ {col : Col} {k g : Nat} {w : World} {t : ExSt}, PX col k w g t → Tidy col w → ∀ s : ByteArray, Sz s → Calls Try.prog 9 #[.pointer (some ⟨g, 0, none⟩), .string s] w fun e w' => e = .returned (.tuple #[.agg (VE (t.get s).1), .bool (t.get s).2]) ∧ Below w.heap.size w w'
  least : ∀ {col : Col} {k g : Nat} {w : World} {t : ExSt}, PX col k w g t → Tidy col w → Calls Try.prog 11 #[.pointer (some ⟨g, 0, none⟩)] w fun e w' => e = .returned (.tuple #[.agg (VE t.least.1), .bool t.least.2]) ∧ Below w.heap.size w w'
  take : ∀ {col : Col} {k g : Nat} {w : World} {t : ExSt}, PX col k w g t → Tidy col w → ∀ s : ByteArray, Sz s → Calls Try.prog 10 #[.pointer (some ⟨g, 0, none⟩), .string s] w fun e w' => e = .returned (.tuple #[.agg (VE (t.get s).1), .bool (t.get s).2]) ∧ DidPX PX col k w g (t.take s) w'
  len : ∀ {col : Col} {k g : Nat} {w : World} {t : ExSt}, PX col k w g t → Tidy col w → Calls Try.prog 14 #[.pointer (some ⟨g, 0, none⟩)] w fun e w' => e = .returned (.int .i64 t.l.length) ∧ Below w.heap.size w w'
  entries : ∀ {col : Col} {k g : Nat} {w : World} {t : ExSt}, PX col k w g t → Tidy col w → Calls Try.prog 15 #[.pointer (some ⟨g, 0, none⟩)] w (RowOut kEn w t.l)
/-- What a nil store returns. -/
structure ProgXn : Prop where
  put : ∀ (w : World) (x : En), Calls Try.prog 12 #[.pointer none, .agg (VE x)] w fun e w' => e = .returned (.int .i64 8) ∧ Below w.heap.size w w'
  add : ∀ (w : World) (s : ByteArray) (x : Int), Calls Try.prog 13 #[.pointer none, .string s, .int .u64 x] w fun e w' => e = .returned (.int .i64 8) ∧ Below w.heap.size w w'
  get : ∀ (w : World) (s : ByteArray), Calls Try.prog 9 #[.pointer none, .string s] w fun e w' => ∃ x : En, e = .returned (.tuple #[.agg (VE x), .bool false]) ∧ Below w.heap.size w w'
  take : ∀ (w : World) (s : ByteArray), Calls Try.prog 10 #[.pointer none, .string s] w fun e w' => ∃ x : En, e = .returned (.tuple #[.agg (VE x), .bool false]) ∧ Below w.heap.size w w'
  least : ∀ (w : World), Calls Try.prog 11 #[.pointer none] w fun e w' => ∃ x : En, e = .returned (.tuple #[.agg (VE x), .bool false]) ∧ Below w.heap.size w w'
  len : ∀ w : World, Calls Try.prog 14 #[.pointer none] w fun e w' => e = .returned (.int .i64 0) ∧ Below w.heap.size w w'
  entries : ∀ w : World, Calls Try.prog 15 #[.pointer none] w fun e w' => ∃ A c, e = .returned (.slice A 0 c) ∧ Below w.heap.size w w'
/-- Nothing elder has turned, and a store. -/
structure AtX (PX : RepX) (w0 : World) (col : Col) (W : World) (k g : Nat) (t : ExSt) : Prop where
  since : Since w0 col W
  px : PX col k W g t
section
variable {PX : RepX} {w0 W W' : World} {col col' : Col} {k g : Nat} {t t' : ExSt}
theorem ProgX.below (HP : ProgX PX) (h : PX col k W g t) (ht : Tidy col W) (hb : Below W.heap.size W W') : PX col k W' g t := HP.keep (P := fun _ => False) h (StepC.below ht hb) (fun _ _ h => h) (fun h => h)
theorem AtX.tidy (h : AtX PX w0 col W k g t) : Tidy col W := h.since.tidy
theorem AtX.below (HP : ProgX PX) (h : AtX PX w0 col W k g t) (hb : Below W.heap.size W W') : AtX PX w0 col W' k g t := ⟨h.since.belowL hb, HP.below h.px h.tidy hb⟩
theorem AtX.did (h : AtX PX w0 col W k g t) (hk : 1 ≤ k) (hd : DidPX PX col k W g t' W') : ∃ col', AtX PX w0 col' W' k g t' := by
  obtain ⟨col', h1, s⟩ := hd
  exact ⟨col', h.since.step s (rng0 hk), h1⟩
end
end Go.Proofs.Ytjkomnjkolggnaa
