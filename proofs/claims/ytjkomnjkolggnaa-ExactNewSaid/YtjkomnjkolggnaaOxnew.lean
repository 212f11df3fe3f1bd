/- The statements about package exact: ExactNew. Conditions: the program's stores keep their contracts (ProgX, ProgXn). -/
import Derived.Test.YtjkomnjkolggnaaOxawake
namespace Go.Proofs.Ytjkomnjkolggnaa
open Go.ChangeShapes Go.WideShapes Go.ChangeAt Go.RowKit
set_option linter.unusedVariables false
set_option linter.unusedSimpArgs false
set_option maxRecDepth 100000

/-- What stands in a round of ExactNew. -/
structure NewEx (w : World) (col : Col) (W : World) (bI : Nat) (l : List Int) : Prop where
  since : Since w col W
  row : RdK0 kI col W (some ⟨bI, 0, none⟩) 3 3 l
section
variable {w W W' : World} {col col' : Col} {bI : Nat} {l : List Int} {P : Nat → Prop}
theorem NewEx.step (h : NewEx w col W bI l) (s : StepC P col W col' W') (hz : ¬ P 0) : NewEx w col' W' bI l := ⟨h.since.step s hz, h.row.keep s hz⟩
theorem NewEx.below (h : NewEx w col W bI l) (hb : Below W.heap.size W W') : NewEx w col W' bI l := h.step (P := fun _ => False) (StepC.below h.since.tidy hb) (fun h => h)
end
set_option maxHeartbeats 8000000 in
theorem exactNew_walk {PX : RepX} (HP : ProgX PX) (HN : ProgXn) (n : Int) (w : World) (n0 : -9223372036854775808 ≤ n) (n1 : n ≤ 9223372036854775807) :
    Calls Try.prog 3 #[.int .i64 n] w (Yes w) := by
  obtain ⟨X, hXm, hX⟩ := mask_any n 63 (by omega)
  have hX' : bits .and .i64 n 63 = (X : Int) := hX
  clear hX
  have S3 := Since.start w
  have b4 : Below w.heap.size w (w.alloc (.cells #[.int .i64 n, .int .i64 (X : Int), .int .i64 0] 3)) := (Below.refl _ _).alloc (Nat.le_refl _) _
  have N4 : NewEx w _ (w.alloc (.cells #[.int .i64 n, .int .i64 (X : Int), .int .i64 0] 3)) w.heap.size [n, (X : Int), 0] :=
    ⟨S3.belowL b4, RdG.ints3 w n X 0, fun _ b o sp e => rfl⟩
  have hzs : ∀ z ∈ [n, (X : Int), 0], J64 z := by
    intro z hz
    simp at hz
    unfold J64
    rcases hz with rfl | rfl | rfl <;> omega
  clear S3 b4
  go_enter Try.func3, Try.ntmps3
  go_wp2
  generalize w.heap.size = bI at *
  generalize ([n, (X : Int), 0] : List Int) = l3 at *
  go_loopw [21] (fun i wr => ∃ (q : Nat) (col : Col), q ≤ 3 ∧ i = .int .i64 q ∧ NewEx w col wr bI l3) (fun i _ => 3 - (intOf i).toNat)
  case atStart => exact ⟨0, _, by omega, rfl, N4⟩
  case round =>
    clear N4
    obtain ⟨q, col, hq, rfl, R⟩ := hrel
    by_cases hlt : q < 3
    · obtain ⟨b, o, z, e, hz, hzm, _, c0⟩ := R.row.rd.at_ hlt
      injection e with e; injection e with e1 e2; subst e1 e2
      have hz64 := hzs z hzm
      have c1 : wr.cell? ⟨bI, q, none⟩ = some (.int .i64 z) := by have := c0 0 (.int .i64 z) rfl; simpa [kI] using this
      have hqi : (q : Int) < 3 := by omega
      clear c0 hz hzm
      go_wp2_with fail
      refine (HP.new (k := 16) R.since.tidy (by omega) z hz64).mono ?_
      rintro e w5 (⟨hE, g, rfl, colp, _, sp⟩ | ⟨hE, rfl, hb5⟩)
      all_goals
        first
          | (have R5 := R.step sp (rng0 (by omega))
             clear sp)
          | (have R5 := R.below hb5
             clear hb5)
        clear R c1
        go_wp2_with fail
        refine (rxNew (k := 32) R5.since.tidy (by omega) z hz64).mono ?_
        rintro e w6 (⟨hF, g', rfl, colq, _, sq⟩ | ⟨hF, rfl, hb6⟩)
      all_goals
        first
          | (rw [hE] at hF; exact absurd hF (by decide))
          | (have R6 := R5.step sq (rng0 (by omega))
             clear sq)
          | (have R6 := R5.below hb6
             clear hb6)
      all_goals
        clear R5
        go_wp2
        go_roundw
        case rel => exact ⟨q + 1, _, by omega, by go_num, R6⟩
        case measure => (simp [intOf] <;> omega)
    · have S4 := R.since
      have hqi : ¬ (q : Int) < 3 := by omega
      clear R hzs
      go_wp2_with fail
      refine (HN.get _ _).mono ?_
      rintro e w5 ⟨x5, rfl, hb5⟩
      have S5 := S4.belowL (hb5.alloc hb5.size (.cells (VE x5) 32))
      clear S4 hb5
      go_wp2_with fail
      refine (HN.take _ _).mono ?_
      rintro e w6 ⟨x6, rfl, hb6⟩
      have S6 := S5.belowL (hb6.alloc hb6.size (.cells (VE x6) 32))
      clear S5 hb6
      go_wp2_with fail
      refine (HN.least _).mono ?_
      rintro e w7 ⟨x7, rfl, hb7⟩
      have S7 := S6.belowL (hb7.alloc hb7.size (.cells (VE x7) 32))
      clear S6 hb7
      have hPu := fun W => HN.put W (⟨#[97]⟩, 0, 0)
      go_wp2_with fail
      refine (hPu _).mono ?_
      rintro e w8 ⟨rfl, hb8⟩
      have S8 := S7.belowL hb8
      clear S7 hb8
      go_wp2_with fail
      refine (HN.add _ _ _).mono ?_
      rintro e w9 ⟨rfl, hb9⟩
      have S9 := S8.belowL hb9
      clear S8 hb9
      go_wp2_with fail
      refine (HN.len _).mono ?_
      rintro e w10 ⟨rfl, hb10⟩
      have S10 := S9.belowL hb10
      clear S9 hb10
      go_wp2_with fail
      refine (HN.entries _).mono ?_
      rintro e w11 ⟨A11, c11, rfl, hb11⟩
      have S11 := S10.belowL hb11
      clear S10 hb11
      go_wp2_with fail
      refine (xawake_any HP _).mono ?_
      rintro e WI ⟨rfl, hbI⟩
      have hb := (S11.belowL hbI).below
      clear S11 hbI
      go_wp2
      go_ret
      exact ⟨rfl, hb⟩
end Go.Proofs.Ytjkomnjkolggnaa
