/- The program's comparison of two lines. Conditions: none beyond those typed. -/
import Derived.Test.YtbdafhephmoedaaLnrow
import Derived.Test.YtbdafhephmoedaaKgrow
import Derived.Test.YtbdafhephmoedaaKcmps
namespace Go.Proofs.Ytbdafhephmoedaa
open Go.ChangeShapes Go.WideShapes Go.ChangeAt Go.RowKit
set_option linter.unusedVariables false
set_option linter.unusedSimpArgs false
set_option maxRecDepth 100000

/-- What a comparison of lines tells: less than 0 where the first one comes before. -/
def CmpOut (w : World) (p q : En) (e : Ending) (w' : World) : Prop := ∃ z : Int, e = .returned (.int .i64 z) ∧ decide (z < 0) = lnB p q ∧ Below w.heap.size w w'
theorem isNaN_any (x : Int) (w : World) : Calls Try.prog 38 #[.int .u64 x] w fun e w' => e = .returned (.bool false) ∧ w' = w := by
  have h : (x != x) = false := by simp
  go_enter Try.func38, Try.ntmps38
  go_wp2
  go_ret
  exact ⟨rfl, rfl⟩
/-- What cmp.Compare tells of two numbers. -/
def cmpN (x y : Int) : Int := if x < y then -1 else if y < x then 1 else 0
set_option maxHeartbeats 1000000 in
theorem cmpU_any (x y : Int) (w : World) : Calls Try.prog 34 #[.int .u64 x, .int .u64 y] w fun e w' => e = .returned (.int .i64 (cmpN x y)) ∧ w' = w := by
  by_cases h1 : x < y
  · have HE := Lib.hid (show cmpN x y = -1 from if_pos h1)
    go_enter Try.func34, Try.ntmps34
    go_wp2_with (go_at_call 38; refine (isNaN_any _ _).mono ?_; rintro e w' ⟨rfl, rfl⟩)
    go_ret
    rw [HE.out]
    exact ⟨rfl, rfl⟩
  by_cases h2 : x > y
  · have HE := Lib.hid (show cmpN x y = 1 by unfold cmpN; rw [if_neg h1, if_pos h2])
    go_enter Try.func34, Try.ntmps34
    go_wp2_with (go_at_call 38; refine (isNaN_any _ _).mono ?_; rintro e w' ⟨rfl, rfl⟩)
    go_ret
    rw [HE.out]
    exact ⟨rfl, rfl⟩
  · have HE := Lib.hid (show cmpN x y = 0 by unfold cmpN; rw [if_neg h1, if_neg h2])
    go_enter Try.func34, Try.ntmps34
    go_wp2_with (go_at_call 38; refine (isNaN_any _ _).mono ?_; rintro e w' ⟨rfl, rfl⟩)
    go_ret
    rw [HE.out]
    exact ⟨rfl, rfl⟩
theorem cmp_at (p q : En) : (cmpN q.2.2 p.2.2 = -1 ∧ lnB p q = true) ∨ (cmpN q.2.2 p.2.2 = 1 ∧ lnB p q = false) ∨ (cmpN q.2.2 p.2.2 = 0 ∧ decide (cmpS p.1 q.1 < 0) = lnB p q) := by
  unfold cmpN
  rcases Int.lt_trichotomy q.2.2 p.2.2 with h | h | h
  · exact .inl ⟨if_pos h, lnB_iff.2 (.inl h)⟩
  · refine .inr (.inr ⟨by rw [if_neg (by omega), if_neg (by omega)], ?_⟩)
    cases hs : sless p.1 q.1 with
    | true => rw [cmpS_lt hs, lnB_iff.2 (.inr ⟨h.symm, hs⟩)]; rfl
    | false =>
      have h0 : lnB p q = false := by
        cases hb : lnB p q with
        | false => rfl
        | true =>
          rcases lnB_iff.1 hb with h' | ⟨_, h'⟩
          · omega
          · rw [hs] at h'; cases h'
      rw [h0]
      unfold cmpS
      rw [hs]
      cases sless q.1 p.1 <;> rfl
  · refine .inr (.inl ⟨by rw [if_neg (by omega), if_pos h], ?_⟩)
    cases hb : lnB p q with
    | false => rfl
    | true =>
      rcases lnB_iff.1 hb with h' | ⟨h', _⟩ <;> omega
set_option maxHeartbeats 1000000 in
theorem compareL_any (p q : En) (w : World) : Calls Try.prog 29 #[.agg (VL p), .agg (VL q)] w (CmpOut w p q) := by
  have HB := Lib.hid (show Below w.heap.size w ((w.alloc (.cells (VL p) 43)).alloc (.cells (VL q) 43)) from ((Below.refl _ _).alloc (Nat.le_refl _) _).alloc (by simp) _)
  have hC := cmpU_any q.2.2 p.2.2
  have hS := cmpS_any p.1 q.1
  rcases cmp_at p q with ⟨h1, h2⟩ | ⟨h1, h2⟩ | ⟨h1, h2⟩
  all_goals
    have H2 := Lib.hid h2
    rw [h1] at hC
    clear h1 h2
  · go_enter Try.func29, Try.ntmps29
    go_wp2_with (go_at_call 34; refine (hC _).mono ?_; rintro e w' ⟨rfl, rfl⟩)
    go_ret
    exact ⟨-1, rfl, H2.out.symm, HB.out⟩
  · go_enter Try.func29, Try.ntmps29
    go_wp2_with (go_at_call 34; refine (hC _).mono ?_; rintro e w' ⟨rfl, rfl⟩)
    go_ret
    exact ⟨1, rfl, H2.out.symm, HB.out⟩
  · go_enter Try.func29, Try.ntmps29
    go_wp2_with (first | (go_at_call 34; refine (hC _).mono ?_; rintro e w' ⟨rfl, rfl⟩) | (go_at_call 35; refine (hS _).mono ?_; rintro e w' ⟨rfl, rfl⟩))
    go_ret
    exact ⟨_, rfl, H2.out, HB.out⟩
end Go.Proofs.Ytbdafhephmoedaa
