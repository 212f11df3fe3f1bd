/- The statements about package countmin: a deck and a sketch side by side. Conditions: the program's sketches keep their contracts (ProgSk). -/
import Derived.Test.YtcckfdhajbbieaaOknew
import Derived.Test.YtcckfdhajbbieaaQshort
namespace Go.Proofs.Ytcckfdhajbbieaa
open Go.ChangeShapes Go.WideShapes Go.ChangeAt Go.RowKit
set_option linter.unusedVariables false
set_option linter.unusedSimpArgs false
set_option maxRecDepth 100000

theorem RdU.stepC {P : Nat → Prop} {w w' : World} {col col' : Col} {b n c : Nat} {l : List Int} (h : RdU w (some ⟨b, 0, none⟩) n c l) (s : StepC P col w col' w') (h0 : ¬ P (col b)) : RdU w' (some ⟨b, 0, none⟩) n c l :=
  ⟨h.1, h.2.1, h.2.2.1, h.2.2.2.1, fun j z hz => by
    obtain ⟨b', o, hA, hc⟩ := h.2.2.2.2 j z hz
    injection hA with hA; injection hA with e1 e2; subst e1; subst e2
    exact ⟨b, 0, rfl, s.cell hc h0⟩⟩
/-- The deck has colour 1, the sketch the base colour 16; the words lie in a block of colour 0. -/
structure DkSk (PK : RepSk) (w : World) (gd : Nat) (A : Option Addr) (m d g : Nat) (T : List Int) (sd : Int) (col : Col) (s : KSt) (W : World) : Prop where
  ds : DkS w col W gd A m d
  pt : PK col 16 W g T sd s
section
variable {PK : RepSk} {w W W' : World} {gd m d g : Nat} {A : Option Addr} {T : List Int} {sd : Int} {col col' : Col} {s s' : KSt} {P : Nat → Prop}
theorem DkSk.tidy (h : DkSk PK w gd A m d g T sd col s W) : Tidy col W := h.ds.tidy
theorem DkSk.start (hD : DkS w col W gd A m d) (h : DidPsk PK col 16 W g T sd s W') : ∃ col', DkSk PK w gd A m d g T sd col' s W' := by
  obtain ⟨col', h1, s⟩ := h
  exact ⟨col', hD.step s (by unfold Rng; omega) (rng0 (by omega)), h1⟩
theorem DkSk.below (HP : ProgSk PK) (h : DkSk PK w gd A m d g T sd col s W) (hb : Below W.heap.size W W') : DkSk PK w gd A m d g T sd col s W' := ⟨h.ds.below hb, HP.below h.pt h.tidy hb⟩
theorem DkSk.did (h : DkSk PK w gd A m d g T sd col s W) (hd : DidPsk PK col 16 W g T sd s' W') : ∃ col', DkSk PK w gd A m d g T sd col' s' W' ∧ StepC (Rng 16) col W col' W' := by
  obtain ⟨col', h1, s⟩ := hd
  exact ⟨col', ⟨h.ds.step s (by unfold Rng; omega) (rng0 (by omega)), h1⟩, s⟩
theorem DkSk.deck (HP : ProgSk PK) (h : DkSk PK w gd A m d g T sd col s W) (hD : Dk w W' gd A m d) (hg : W.grownBy W' (some gd)) : DkSk PK w gd A m d g T sd col s W' ∧ StepC (fun c => c = 1) col W col W' := by
  obtain ⟨h1, s⟩ := h.ds.deck hD hg
  exact ⟨⟨h1, HP.keep h.pt s (fun c hc e => by have := hc.1; omega) (by omega)⟩, s⟩
end
/-- The twin's sketch has the base colour 32. -/
structure TwSk (PK : RepSk) (w : World) (gd : Nat) (A : Option Addr) (m d g g2 : Nat) (T : List Int) (sd : Int) (col : Col) (s : KSt) (W : World) : Prop where
  dk : DkSk PK w gd A m d g T sd col s W
  rf : RefSk col 32 W g2 T sd s
section
variable {PK : RepSk} {w W W' : World} {gd m d g g2 : Nat} {A : Option Addr} {T : List Int} {sd : Int} {col col' : Col} {s s' : KSt} {P : Nat → Prop}
theorem TwSk.tidy (h : TwSk PK w gd A m d g g2 T sd col s W) : Tidy col W := h.dk.tidy
theorem TwSk.below (HP : ProgSk PK) (h : TwSk PK w gd A m d g g2 T sd col s W) (hb : Below W.heap.size W W') : TwSk PK w gd A m d g g2 T sd col s W' := ⟨h.dk.below HP hb, h.rf.below h.tidy hb⟩
theorem TwSk.deck (HP : ProgSk PK) (h : TwSk PK w gd A m d g g2 T sd col s W) (hD : Dk w W' gd A m d) (hg : W.grownBy W' (some gd)) : TwSk PK w gd A m d g g2 T sd col s W' := by
  obtain ⟨h1, s⟩ := h.dk.deck HP hD hg
  exact ⟨h1, h.rf.keep s (fun c hc e => by have := hc.1; omega)⟩
/-- Both have added: first the program's, then the twin's. -/
theorem TwSk.first (h : TwSk PK w gd A m d g g2 T sd col s W) (hd : DidPsk PK col 16 W g T sd s' W') : ∃ col', DkSk PK w gd A m d g T sd col' s' W' ∧ RefSk col' 32 W' g2 T sd s := by
  obtain ⟨col', h1, s⟩ := h.dk.did hd
  exact ⟨col', h1, h.rf.keep s (rngs_no (by omega))⟩
theorem DkSk.second (HP : ProgSk PK) (h : DkSk PK w gd A m d g T sd col s W) (hd : DidSk col 32 W g2 T sd s W') : ∃ col', TwSk PK w gd A m d g g2 T sd col' s W' := by
  obtain ⟨col', h1, s⟩ := hd
  exact ⟨col', ⟨h.ds.step s (by unfold Rng; omega) (rng0 (by omega)), HP.keep h.pt s (rngs_no (by omega)) (rng0 (by omega))⟩, h1⟩
end
end Go.Proofs.Ytcckfdhajbbieaa
