/- The statements about package chain: awake. Conditions: the program's lists keep their contracts (ProgLi). -/
import Derived.Test.YtfbddcbbkfklnaaDoorDprog
import Derived.Test.YtfbddcbbkfklnaaDoorKsame
namespace Go.Proofs.YtfbddcbbkfklnaaDoor
open Go.ChangeShapes Go.WideShapes Go.ChangeAt Go.RowKit
set_option linter.unusedVariables false
set_option linter.unusedSimpArgs false
set_option maxRecDepth 100000

/-- Nothing elder has turned, and a list. -/
structure AtL {α : Type} (PL : RepL α) (w0 : World) (col : Col) (W : World) (k g : Nat) (m : CSt α) : Prop where
  since : Since w0 col W
  pl : PL col k W g m
section
variable {α : Type} {PL : RepL α} {w0 W W' : World} {col col' : Col} {k g : Nat} {m m' : CSt α} {K : Kind α} {V : α → Value} {ok : α → Prop} {fN fB fX : Nat}
theorem AtL.tidy (h : AtL PL w0 col W k g m) : Tidy col W := h.since.tidy
theorem AtL.below (HP : ProgL K V ok fN fB fX PL) (h : AtL PL w0 col W k g m) (hb : Below W.heap.size W W') : AtL PL w0 col W' k g m := ⟨h.since.belowL hb, HP.below h.pl h.tidy hb⟩
theorem AtL.did (h : AtL PL w0 col W k g m) (hk : 1 ≤ k) (hd : DidPL PL col k W g m' W') : ∃ col', AtL PL w0 col' W' k g m' := by
  obtain ⟨col', h1, s⟩ := hd
  exact ⟨col', h.since.step s (rng0 hk), h1⟩
end
/-- The chapter's example. -/
def ex1 : CSt Int := ((newC Int 5).pushB 7).2
def ex2 : CSt Int := (ex1.pushB 8).2
def ex3 : CSt Int := (ex2.insA 0 9).2
def ex4 : CSt Int := ex3.rem 1
def ex5 : CSt Int := (ex4.pushF 5).2
theorem ex_chain : (ex2.insA 0 9).1.1 = 2 ∧ ex3.vals = [7, 9, 8] ∧ (ex4.pushF 5).1 = (1, 0) ∧ ex5.first = 1 ∧ ex5.last = 2 := by decide
set_option maxHeartbeats 4000000 in
theorem cawake_any {PL : RepL Int} (HP : ProgLi PL) (w : World) (hTab : Tab w) : Calls Tryd.prog 20 #[] w fun e w' => e = .returned (.bool true) ∧ Below w.heap.size w w' := by
  obtain ⟨x1, x2, x3, x4, x5⟩ := ex_chain
  have hS0 := Since.start w
  go_enter Tryd.func20, Tryd.ntmps20
  go_wp2_with fail
  refine (HP.all.new (k := 16) hS0.tidy (hS0.tb hTab) (by omega) 5 (by simp [J64])).mono ?_
  rintro e w2 (⟨_, g, rfl, hd⟩ | ⟨h0, _⟩)
  rotate_left
  · exact absurd h0 (show ¬ lstE 5 = 1 by decide)
  obtain ⟨col2, p2, s2⟩ := hd
  have A2 : AtL PL w col2 w2 16 g (newC Int 5) := ⟨hS0.step s2 (rng0 (by omega)), p2⟩
  clear hS0 s2 p2
  go_wp2_with fail
  refine (HP.all.pushB A2.pl A2.tidy 7 (by simp [J64])).mono ?_
  rintro e w3 ⟨rfl, hd⟩
  obtain ⟨col3, A3⟩ := A2.did (by omega) hd
  have B3 : AtL PL w col3 w3 16 g ex1 := A3
  generalize ((newC Int 5).pushB 7).1 = r3 at *
  clear A2 hd A3
  go_wp2_with fail
  refine (HP.all.pushB B3.pl B3.tidy 8 (by simp [J64])).mono ?_
  rintro e w4 ⟨rfl, hd⟩
  obtain ⟨col4, A4⟩ := B3.did (by omega) hd
  have B4 : AtL PL w col4 w4 16 g ex2 := A4
  generalize (ex1.pushB 8).1 = r4 at *
  clear B3 hd A4
  go_wp2_with fail
  refine (HP.insA B4.pl B4.tidy 0 9 (by simp [J64]) (by simp [J64])).mono ?_
  rintro e w5 ⟨rfl, hd⟩
  obtain ⟨col5, A5⟩ := B4.did (by omega) hd
  have B5 : AtL PL w col5 w5 16 g ex3 := A5
  clear B4 hd A5
  rw [x1]
  generalize (ex2.insA 0 9).1.2 = r5 at *
  have hV := HP.all.vals B5.pl B5.tidy
  rw [x2] at hV
  clear x1 x2
  go_wp2_with fail
  refine hV.mono ?_
  rintro e w6 ⟨A6, n6, c6, hl6, rfl, R6, _, b6⟩
  obtain rfl : 3 = n6 := hl6
  have b7 : Below w6.heap.size w6 (w6.alloc (.cells #[.int .i64 7, .int .i64 9, .int .i64 8] 3)) := (Below.refl _ _).alloc (Nat.le_refl _) _
  have B7 := (B5.below HP.all b6).below HP.all b7
  have hSI := sameInts_any A6 (some ⟨w6.heap.size, 0, none⟩) 3 3 c6 3 [7, 9, 8] [7, 9, 8] _ (R6.below b7) (RdG.ints3 w6 7 9 8)
  rw [decide_eq_true rfl] at hSI
  clear B5 hV R6 b7
  go_wp2_with fail
  refine hSI.mono ?_
  rintro e w7 ⟨rfl, jq, rfl⟩
  have B8 := B7.below HP.all (below_drewN (Below.refl _ _) jq)
  generalize (w6.alloc (.cells #[.int .i64 7, .int .i64 9, .int .i64 8] 3)).drewN jq = w8 at *
  clear B7 hSI
  go_wp2_with fail
  refine (HP.rem B8.pl B8.tidy 1 (by simp [J64])).mono ?_
  rintro e w9 ⟨rfl, hd⟩
  obtain ⟨col9, A9⟩ := B8.did (by omega) hd
  have B9 : AtL PL w col9 w9 16 g ex4 := A9
  generalize (ex3.value 0 1) = r9 at *
  clear B8 hd A9
  go_wp2_with fail
  refine (HP.pushF B9.pl B9.tidy 5 (by simp [J64])).mono ?_
  rintro e w10 ⟨rfl, hd⟩
  obtain ⟨col10, A10⟩ := B9.did (by omega) hd
  have B10 : AtL PL w col10 w10 16 g ex5 := A10
  rw [x3]
  clear B9 hd A10 x3
  go_wp2_with fail
  refine (HP.first B10.pl B10.tidy).mono ?_
  rintro e w11 ⟨rfl, j11, hj11⟩
  have hb11 : Below w10.heap.size w10 w11 := by rw [hj11]; exact below_drewN (Below.refl _ _) j11
  clear hj11
  have B11 := B10.below HP.all hb11
  rw [x4]
  clear B10 hb11 x4
  go_wp2_with fail
  refine (HP.last B11.pl B11.tidy).mono ?_
  rintro e w12 ⟨rfl, j12, hj12⟩
  have hb12 : Below w11.heap.size w11 w12 := by rw [hj12]; exact below_drewN (Below.refl _ _) j12
  clear hj12
  have B12 := (B11.below HP.all hb12).since.below
  rw [x5]
  clear B11 hb12 x5
  go_wp2
  go_ret
  exact ⟨rfl, B12⟩
end Go.Proofs.YtfbddcbbkfklnaaDoor
