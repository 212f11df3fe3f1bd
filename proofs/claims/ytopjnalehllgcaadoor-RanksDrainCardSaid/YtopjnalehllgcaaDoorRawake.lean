/- The statements about package ranks: awake, count. Conditions: the program's orders keep their contracts (ProgR). -/
import Derived.Test.YtopjnalehllgcaaDoorRprog
import Derived.Test.YtopjnalehllgcaaDoorKsame
namespace Go.Proofs.YtopjnalehllgcaaDoor
open Go.ChangeShapes Go.WideShapes Go.ChangeAt Go.RowKit
set_option linter.unusedVariables false
set_option linter.unusedSimpArgs false
set_option maxRecDepth 100000

theorem RdG.ints2 (W : World) (a b : Int) : RdG kI (W.alloc (.cells #[.int .i64 a, .int .i64 b] 3)) (some ⟨W.heap.size, 0, none⟩) 2 2 [a, b] := by
  refine ⟨rfl, Nat.le_refl _, by simp [maxLen], fun j x hx => ⟨_, _, rfl, fun i u hu => ?_⟩⟩
  rw [World.cell?_alloc_at _ _ _ _ rfl]
  have hi : i < 1 := (List.getElem?_eq_some_iff.1 hu).1
  obtain rfl : i = 0 := by omega
  have hu' : u = .int .i64 x := by injection hu with hu; exact hu.symm
  subst hu'
  match j, hx with
  | 0, ha => simp at ha; subst ha; rfl
  | 1, ha => simp at ha; subst ha; rfl
  | j + 2, ha => simp at ha
/-- The chapter's example. -/
def rx1 : CSt Int := ((newC Int 4).insR 0 5).2
def rx2 : CSt Int := (rx1.insR 1 3).2
def rx3 : CSt Int := (rx2.raiseR 1 2).2
theorem ex_ranks : ((newC Int 4).insR 0 5).1 = 0 ∧ (rx1.insR 1 3).1 = 0 ∧ (rx2.raiseR 1 2).1 = 0 ∧ rx3.ns = [0, 1] := by decide
set_option maxHeartbeats 4000000 in
theorem rawake_any {PR : RepR} (HP : ProgR PR) (w : World) (hTab : Tab w) : Calls Tryd.prog 17 #[] w fun e w' => e = .returned (.bool true) ∧ Below w.heap.size w w' := by
  obtain ⟨x1, x2, x3, x4⟩ := ex_ranks
  have hS0 := Since.start w
  go_enter Tryd.func17, Tryd.ntmps17
  go_wp2_with fail
  refine (HP.new (k := 16) hS0.tidy (hS0.tb hTab) (by omega) 4 (by simp [J64])).mono ?_
  rintro e w2 (⟨_, g, rfl, hd⟩ | ⟨h0, _⟩)
  rotate_left
  · exact absurd h0 (show ¬ rnkE 4 = 1 by decide)
  obtain ⟨col2, p2, s2⟩ := hd
  have A2 : AtR PR w col2 w2 16 g (newC Int 4) := ⟨hS0.step s2 (rng0 (by omega)), p2⟩
  clear hS0 s2 p2
  go_wp2_with fail
  refine (HP.ins A2.pr A2.tidy 0 5 (by simp [J64]) (by simp [U64])).mono ?_
  rintro e w3 ⟨rfl, hd⟩
  obtain ⟨col3, A3⟩ := A2.did (by omega) hd
  have B3 : AtR PR w col3 w3 16 g rx1 := A3
  rw [x1]
  clear A2 hd A3 x1
  go_wp2_with fail
  refine (HP.ins B3.pr B3.tidy 1 3 (by simp [J64]) (by simp [U64])).mono ?_
  rintro e w4 ⟨rfl, hd⟩
  obtain ⟨col4, A4⟩ := B3.did (by omega) hd
  have B4 : AtR PR w col4 w4 16 g rx2 := A4
  rw [x2]
  clear B3 hd A4 x2
  go_wp2_with fail
  refine (HP.raise B4.pr B4.tidy 1 2 (by simp [J64]) (by simp [U64])).mono ?_
  rintro e w5 ⟨rfl, hd⟩
  obtain ⟨col5, A5⟩ := B4.did (by omega) hd
  have B5 : AtR PR w col5 w5 16 g rx3 := A5
  rw [x3]
  clear B4 hd A5 x3
  have hV := HP.order B5.pr B5.tidy
  rw [x4] at hV
  clear x4
  go_wp2_with fail
  refine hV.mono ?_
  rintro e w6 ⟨A6, n6, c6, hl6, rfl, R6, _, b6⟩
  obtain rfl : 2 = n6 := hl6
  have b7 : Below w6.heap.size w6 (w6.alloc (.cells #[.int .i64 0, .int .i64 1] 3)) := (Below.refl _ _).alloc (Nat.le_refl _) _
  have B7 := (B5.below HP b6).below HP b7
  have hSI := sameInts_any A6 (some ⟨w6.heap.size, 0, none⟩) 2 2 c6 2 [0, 1] [0, 1] _ (R6.below b7) (RdG.ints2 w6 0 1)
  rw [decide_eq_true rfl] at hSI
  clear B5 hV R6 b7
  go_wp2_with fail
  refine hSI.mono ?_
  rintro e w7 ⟨rfl, jq, hjq⟩
  have b8 : Below (w6.alloc (.cells #[.int .i64 0, .int .i64 1] 3)).heap.size (w6.alloc (.cells #[.int .i64 0, .int .i64 1] 3)) w7 := by rw [hjq]; exact below_drewN (Below.refl _ _) jq
  have B8 := (B7.below HP b8).since.below
  clear B7 hSI hjq b8
  go_wp2
  go_ret
  exact ⟨rfl, B8⟩
end Go.Proofs.YtopjnalehllgcaaDoor
