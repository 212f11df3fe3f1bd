/- All that the statements use of the program's tables, as one structure of contracts over a representation. Conditions: none beyond those typed. -/
import Derived.Test.YtcckfdhajbbieaaMref4
import Derived.Test.YtcckfdhajbbieaaKdeck
namespace Go.Proofs.Ytcckfdhajbbieaa
open Go.ChangeShapes Go.WideShapes Go.ChangeAt Go.RowKit
set_option linter.unusedVariables false
set_option linter.unusedSimpArgs false

/-- Table m lies in block g, with the base colour k. -/
abbrev RepM (α : Type) := Col → Nat → World → Nat → MSt α → Prop
def DidPM {α : Type} (PM : RepM α) (col : Col) (k : Nat) (w : World) (g : Nat) (m : MSt α) (w' : World) : Prop := ∃ col', PM col' k w' g m ∧ StepC (Rng k) col w col' w'
def NewPM {α : Type} (PM : RepM α) (col : Col) (k : Nat) (n : Int) (t : Nat) (w : World) (e : Ending) (w' : World) : Prop :=
  (mapE n t = 0 ∧ ∃ g, e = .returned (.tuple #[.pointer (some ⟨g, 0, none⟩), .int .i64 0]) ∧ DidPM PM col k w g (newM α n.toNat) w') ∨ (mapE n t ≠ 0 ∧ e = .returned (.tuple #[.pointer none, .int .i64 (mapE n t)]) ∧ Below w.heap.size w w')
/-- What Get and Delete return. -/
def getG {α : Type} (z : α) (m : MSt α) (s : ByteArray) : α × Bool := ((m.look s).getD z, (m.look s).isSome)
/-- A slice of words that never turns. -/
structure RdU0 (col : Col) (w : World) (A : Option Addr) (n c : Nat) (l : List Int) : Prop where
  rd : RdU w A n c l
  imm : Imm col A n
/-- V: how a value lies in a slot; z: the zero value; ok: the values that a slot bears; fN, fP, fG, fD, fL: New, Put, Get, Delete, Len. -/
structure ProgM {α : Type} (V : α → Value) (z : α) (ok : α → Prop) (fN fP fG fD fL : Nat) (PM : RepM α) : Prop where
  keep : ∀ {P : Nat → Prop} {col col' : Col} {w w' : World} {k g : Nat} {m : MSt α}, PM col k w g m → StepC P col w col' w' → (∀ c, Rng k c → ¬ P c) → ¬ P 0 → PM col' k w' g m
  good : ∀ {col : Col} {w : World} {k g : Nat} {m : MSt α}, PM col k w g m → GoodM m
  new : ∀ {col : Col} {k : Nat} {w : World} {A : Option Addr} {t c : Nat} {T : List Int}, Tidy col w → 1 ≤ k → RdU0 col w A t c T → ∀ n seed : Int, (-9223372036854775808 ≤ n ∧ n ≤ 9223372036854775807) → (0 ≤ seed ∧ seed ≤ 18446744073709551615) →
    Calls Try.prog fN #[.int .i64 n, .slice A t c, .int .u64 seed] w (NewPM PM col k n t w)
  put : ∀ {col : Col} {k g : Nat} {w : World} {m : MSt α}, PM col k w g m → Tidy col w → ∀ (s : ByteArray) (v : α), s.size ≤ 281474976710656 → ok v →
    Calls Try.prog fP #[.pointer (some ⟨g, 0, none⟩), .string s, V v] w fun e w' => e = .returned (.int .i64 (m.put s v).1) ∧ DidPM PM col k w g (m.put s v).2 w'
  get : ∀ {col : Col} {k g : Nat} {w : World} {m : MSt α}, PM col k w g m → Tidy col w → ∀ s : ByteArray, s.size ≤ 281474976710656 →
    Calls Try.prog fG #[.pointer (some ⟨g, 0, none⟩), .string s] w fun e w' => e = .returned (.tuple #[V (getG z m s).1, .bool (getG z m s).2]) ∧ Below w.heap.size w w'
  del : ∀ {col : Col} {k g : Nat} {w : World} {m : MSt α}, PM col k w g m → Tidy col w → ∀ s : ByteArray, s.size ≤ 281474976710656 →
    Calls Try.prog fD #[.pointer (some ⟨g, 0, none⟩), .string s] w fun e w' => e = .returned (.tuple #[V (getG z m s).1, .bool (getG z m s).2]) ∧ DidPM PM col k w g (m.del s) w'
  len : ∀ {col : Col} {k g : Nat} {w : World} {m : MSt α}, PM col k w g m → Tidy col w →
    Calls Try.prog fL #[.pointer (some ⟨g, 0, none⟩)] w fun e w' => e = .returned (.int .i64 m.l.length) ∧ Below w.heap.size w w'
def I64' (z : Int) : Prop := -9223372036854775808 ≤ z ∧ z ≤ 9223372036854775807
section
variable {α : Type} {PM : RepM α} {w0 W W' : World} {col col' : Col} {k g : Nat} {m m' : MSt α} {P : Nat → Prop} {V : α → Value} {z : α} {ok : α → Prop} {fN fP fG fD fL : Nat} {A : Option Addr} {n c : Nat} {T : List Int}
theorem RdU0.keep (h : RdU0 col W A n c T) (hs : StepC P col W col' W') (hp : ¬ P 0) : RdU0 col' W' A n c T := by
  have hl : 0 < n → ∀ b o sp, A = some ⟨b, o, sp⟩ → b < W.heap.size := fun hn b o sp e => by
    obtain ⟨b', o', z, e', _, _, hc⟩ := h.rd.at_ hn
    rw [e'] at e; injection e with e; injection e with e1 e2; subst e1
    exact hc.2.1
  refine ⟨⟨h.rd.1, h.rd.2.1, h.rd.2.2.1, h.rd.2.2.2.1, fun j a ha => ?_⟩, h.imm.step hs hl⟩
  obtain ⟨b, o, hA, hc⟩ := h.rd.2.2.2.2 j a ha
  have hn : 0 < n := by
    have := (List.getElem?_eq_some_iff.1 ha).1
    have := h.rd.len
    omega
  exact ⟨b, o, hA, (World.cell?_of_block (w := W) (hs.block b (hl hn b o none hA) (by rw [h.imm hn b o none hA]; exact hp))).trans hc⟩
theorem RdU0.below (h : RdU0 col W A n c T) (ht : Tidy col W) (hb : Below W.heap.size W W') : RdU0 col W' A n c T := h.keep (P := fun _ => False) (StepC.below ht hb) (fun h => h)
theorem ProgM.below (HP : ProgM V z ok fN fP fG fD fL PM) (h : PM col k W g m) (ht : Tidy col W) (hb : Below W.heap.size W W') : PM col k W' g m := HP.keep (P := fun _ => False) h (StepC.below ht hb) (fun _ _ h => h) (fun h => h)
end
end Go.Proofs.Ytcckfdhajbbieaa
