/- Decks that make tags, weights and events: Deck.Tags, Small, Weight, Event. Conditions: none beyond those typed. -/
import Derived.Test.YtbdafhephmoedaaTlist
import Derived.Test.YtbdafhephmoedaaTm
import Derived.Test.YtbdafhephmoedaaBm
import Derived.Deep.RegionHeld3
namespace Go.Proofs.Ytbdafhephmoedaa
open Go.ChangeShapes Go.WideShapes Go.ChangeAt Go.RowKit
set_option linter.unusedVariables false
set_option linter.unusedSimpArgs false
set_option maxRecDepth 100000

/-- A deck in block g, whose numbers were there in world B; all since then has left alone what is older than B. -/
def Dk (B W : World) (g : Nat) (A : Option Addr) (n c : Nat) : Prop := RdI B A n c ∧ Below B.heap.size B W ∧ B.heap.size ≤ g ∧ ∃ a, DeckAt W g A n c a
section
variable {B W W' : World} {g n c : Nat} {A : Option Addr}
theorem Dk.new (h : RdI B A n c) : Dk B (B.alloc (.cells #[.slice A n c, .int .i64 0] 50)) B.heap.size A n c :=
  ⟨h, (Below.refl _ _).alloc (Nat.le_refl _) _, Nat.le_refl _, 0, heap_alloc_new B _, Nat.zero_le _⟩
theorem Dk.lt (h : Dk B W g A n c) : g < W.heap.size := by obtain ⟨_, _, _, a, hD⟩ := h; exact hD.lt
theorem Dk.ge (h : Dk B W g A n c) : B.heap.size ≤ g := h.2.2.1
theorem Dk.low (h : Dk B W g A n c) : Below B.heap.size B W := h.2.1
theorem Dk.step (h : Dk B W g A n c) (hD : ∃ a, DeckAt W' g A n c a) (hg : W.grownBy W' (some g)) : Dk B W' g A n c :=
  ⟨h.1, h.2.1.grown hg h.2.1.size (fun k hk => by injection hk with hk; have := h.2.2.1; omega), h.2.2.1, hD⟩
theorem Dk.far {row : Option Nat} (h : Dk B W g A n c) (hg : W.grownBy W' row) (hr : ∀ k, row = some k → g < k) : Dk B W' g A n c := by
  obtain ⟨h1, h2, h3, a, hD⟩ := h
  refine ⟨h1, h2.grown hg h2.size (fun k hk => by have := hr k hk; omega), h3, a, hD.far (hg.block g hD.lt ?_)⟩
  intro e
  have := hr g e.symm
  omega
theorem Dk.below (h : Dk B W g A n c) (hb : Below W.heap.size W W') : Dk B W' g A n c := by
  obtain ⟨h1, h2, h3, a, hD⟩ := h
  exact ⟨h1, h2.trans (hb.mono h2.size), h3, a, hD.below hb⟩
theorem Dk.alloc (h : Dk B W g A n c) (o : Obj) : Dk B (W.alloc o) g A n c := h.below ((Below.refl _ _).alloc (Nat.le_refl _) _)
theorem Dk.drewN (h : Dk B W g A n c) (k : Nat) : Dk B (W.drewN k) g A n c := ⟨h.1, below_drewN h.2.1 k, h.2.2.1, h.2.2.2⟩
end

/-- A number below k comes back, and the deck; nothing else has turned. -/
def NextDk (B : World) (g : Nat) (A : Option Addr) (n c : Nat) (k : Int) (W : World) (e : Ending) (W' : World) : Prop :=
  ∃ r : Nat, (r : Int) < k ∧ e = .returned (.int .i64 (r : Int)) ∧ Dk B W' g A n c ∧ W.grownBy W' (some g)
theorem next_dk {B W : World} {g n c : Nat} {A : Option Addr} (h : Dk B W g A n c) (k : Int) (h3 : 1 ≤ k) (h4 : k ≤ 4398046511104) :
    Calls Try.prog 25 #[.pointer (some ⟨g, 0, none⟩), .int .i64 k] W (NextDk B g A n c k W) := by
  obtain ⟨a, hD⟩ := h.2.2.2
  refine (next_any g A n c a k W hD (h.1.below h.2.1) ?_ h3 h4).mono ?_
  · intro j hj b o hA
    obtain ⟨b', o', z, hA', hc, _⟩ := h.1.2.2 j hj
    rw [hA] at hA'
    injection hA' with hA'
    injection hA' with e1 e2
    subst e1
    have := World.block_lt_of_cell? B ⟨b, _, none⟩ hc
    have := h.ge
    intro e
    simp at *
    omega
  · rintro e W' ⟨r, hr, he, hD', hg⟩
    exact ⟨r, hr, he, h.step hD' hg, hg⟩

/-- A weight comes back. -/
def WeightDk (B : World) (g : Nat) (A : Option Addr) (n c : Nat) (W : World) (e : Ending) (W' : World) : Prop :=
  ∃ x : Int, 0 ≤ x ∧ x ≤ 18446744073709551615 ∧ e = .returned (.int .u64 x) ∧ Dk B W' g A n c ∧ W.grownBy W' (some g)
theorem grown_on {a b c : World} {row row' : Option Nat} (h : a.grownBy b row) (k : b.grownBy c row') (hr : ∀ j, row' = some j → a.heap.size ≤ j) : a.grownBy c row :=
  ⟨k.os.trans h.os, k.tape.trans h.tape, k.output.trans h.output, Nat.le_trans h.size k.size, fun j hj hne => (k.block j (Nat.lt_of_lt_of_le hj h.size) (fun e => by have := hr j e.symm; omega)).trans (h.block j hj hne)⟩
/-- Tags of a deck's own making. -/
def FewTags (l : List Tg) : Prop := 1 ≤ l.length ∧ l.length ≤ 2 ∧ ∀ t ∈ l, vErr t = 0
def tK (r : Nat) : Tg := (⟨#[107]⟩, chr (97 + r))
def tAB : Tg := (⟨#[97, 46, 98]⟩, ⟨#[]⟩)
def tHost (r : Nat) : Tg := (⟨#[104, 111, 115, 116, 45]⟩ ++ chr (48 + r), ⟨#[48, 49, 50, 51, 52, 53, 54, 55, 56, 57]⟩)
theorem tK_ok (r : Nat) : vErr (tK r) = 0 := vErr_ok (by decide) (by decide) (Nat.le_trans (chr_size _) (by decide))
theorem tAB_ok : vErr tAB = 0 := by decide
theorem tHost_ok {r : Nat} (h : r < 3) : vErr (tHost r) = 0 := by
  match r, h with
  | 0, _ => decide
  | 1, _ => decide
  | 2, _ => decide
theorem fine_one (r : Nat) : FewTags [tK r] := ⟨by simp, by simp, fun t ht => by simp at ht; subst ht; exact tK_ok r⟩
theorem fine_two {r : Nat} {t : Tg} (h : vErr t = 0) : FewTags [tK r, t] := ⟨by simp, by simp, fun x hx => by
  simp at hx
  rcases hx with rfl | rfl
  · exact tK_ok r
  · exact h⟩
end Go.Proofs.Ytbdafhephmoedaa
