/- Deck.Classes: classes of a deck's making are accepted. Conditions: none beyond those typed. -/
import Derived.Test.YtbdafhephmoedaaAm
import Derived.Test.YtbdafhephmoedaaEdeck
namespace Go.Proofs.Ytbdafhephmoedaa
open Go.ChangeShapes Go.WideShapes Go.ChangeAt Go.RowKit
set_option linter.unusedVariables false
set_option linter.unusedSimpArgs false
set_option maxRecDepth 100000

theorem chk_snoc : ∀ (L : List (Int × Int)) (last s : Int) (x : Int × Int), chkC last L = 0 → (∀ y ∈ L, y.1 ≤ s) → last ≤ s → s < x.1 → 1 ≤ x.1 ∧ x.1 ≤ 4096 ∧ 0 ≤ x.2 ∧ x.2 ≤ 65536 → chkC last (L ++ [x]) = 0
  | [], last, s, x, _, _, h1, h2, h3 => by
    show chkC last [x] = 0
    unfold chkC
    rw [if_neg (by omega), if_neg (by omega)]; rfl
  | y :: r, last, s, x, h, hy, h1, h2, h3 => by
    show chkC last (y :: (r ++ [x])) = 0
    unfold chkC at h ⊢
    split at h
    · simp at h
    · rename_i hc
      rw [if_neg hc]
      split at h
      · simp at h
      · rename_i hd
        rw [if_neg hd]
        exact chk_snoc r y.1 s x h (fun z hz => hy z (by simp [hz])) (hy y (by simp)) h2 h3
/-- Classes of a deck's making: accepted; few and small. -/
structure MadeL (L : List (Int × Int)) : Prop where
  ok : clsE L = 0
  n1 : 1 ≤ L.length
  n4 : L.length ≤ 4
  sm : ∀ x ∈ L, 1 ≤ x.1 ∧ x.1 ≤ 160 ∧ 0 ≤ x.2 ∧ x.2 ≤ 4
theorem Dk.far' {B W W' : World} {g n c : Nat} {A : Option Addr} {row : Option Nat} {X : Nat} (h : Dk B W g A n c) (hg : W.grownBy W' row) (hr : ∀ q, row = some q → X ≤ q) (hl : g < X) : Dk B W' g A n c := h.far hg fun q hq => by have := hr q hq; omega
end Go.Proofs.Ytbdafhephmoedaa
