/- heavykeyslaw03.TagsDiffer returns true, whatever the input. Conditions: none beyond those typed. -/
import Derived.Test.YtnalgjchdenbpaaTlaws
namespace Go.Proofs.Ytnalgjchdenbpaa
open Go.ChangeShapes Go.WideShapes Go.ChangeAt Go.RowKit
set_option linter.unusedVariables false
set_option linter.unusedSimpArgs false

theorem list0_any (A : Option Addr) (n c : Nat) (w : World) (hR : RdI w A n c) :
    Calls Try.prog 13 #[.slice A n c, .int .i64 0, .string ⟨#[]⟩, .string ⟨#[]⟩] w (ListOut w (Fair 0)) :=
  list_any A n c 0 ⟨#[]⟩ ⟨#[]⟩ w hR (by omega) (by omega) (by decide) (by decide)

theorem differ_eq {l m : List Tg} (h1 : keyErr l = 0) (h2 : keyErr m = 0) : ((keyBy l).toList == (keyBy m).toList) = decide (sortT l = sortT m) := by
  have e1 : sortT l = srt l := by unfold sortT; rw [if_pos (keyErr_zero h1).1]
  have e2 : sortT m = srt m := by unfold sortT; rw [if_pos (keyErr_zero h2).1]
  rw [str_beq, e1, e2, decide_eq_decide]
  exact key_inj h1 h2

set_option maxRecDepth 100000 in
set_option maxHeartbeats 2000000 in
theorem tagsDiffer_walk (A : Option Addr) (n c : Nat) (B : Option Addr) (m d : Nat) (w : World) (hA : RdI w A n c) (hB : RdI w B m d) :
    Calls Try.prog 8 #[.slice A n c, .slice B m d] w (Yes w) := by
  go_enter Try.func8, Try.ntmps8
  go_wp2_with fail
  refine (list0_any _ _ _ _ hA).mono ?_
  rintro e w1 ⟨A1, n1, c1, l, rfl, hn1, hr1, _, hb1⟩
  go_wp2_with fail
  refine (list0_any _ _ _ _ (hB.below hb1)).mono ?_
  rintro e w2 ⟨A2, n2, c2, m2, rfl, hn2, hr2, _, hb2⟩
  have hr1b := hr1.below hb2
  have hB2 := below_then hb1 hb2
  clear hr1 hb1 hb2 hA hB
  go_wp2_with fail
  refine (sort_any _ _ _ _ _ hr1b (by omega)).mono ?_
  rintro e w3 ⟨A3, n3, c3, rfl, hn3, hr3, hb3⟩
  have hr1c := hr1b.below hb3
  have hr2c := hr2.below hb3
  have hB3 := below_then hB2 hb3
  clear hr1b hr2 hb3 hB2
  go_wp2_with fail
  refine (sort_any _ _ _ _ _ hr2c (by omega)).mono ?_
  rintro e w4 ⟨A4, n4, c4, rfl, hn4, hr4, hb4⟩
  have hr1d := hr1c.below hb4
  have hr2d := hr2c.below hb4
  have hr3d := hr3.below hb4
  have hB4 := below_then hB3 hb4
  clear hr1c hr2c hr3 hb4 hB3
  go_wp2_with fail
  refine (key_any _ _ _ _ _ hr1d (by omega)).mono ?_
  rintro e w5 ⟨rfl, hb5⟩
  have hr2e := hr2d.below hb5
  have hr3e := hr3d.below hb5
  have hr4e := hr4.below hb5
  have hB5 := below_then hB4 hb5
  clear hr1d hr2d hr3d hr4 hb5 hB4
  go_wp2_with fail
  refine (key_any _ _ _ _ _ hr2e (by omega)).mono ?_
  rintro e w6 ⟨rfl, hb6⟩
  have hr3f := hr3e.below hb6
  have hr4f := hr4e.below hb6
  have hB6 := below_then hB5 hb6
  clear hr2e hr3e hr4e hb6 hB5
  by_cases h1 : keyErr l = 0
  · by_cases h2 : keyErr m2 = 0
    · have HD := Lib.hid (differ_eq h1 h2)
      have H1 := Lib.hid h1
      have H2 := Lib.hid h2
      have H3 := Lib.hid (keyErr_zero h1).1
      have H4 := Lib.hid (keyErr_zero h2).1
      clear h1 h2
      rw [H1.out, H2.out, H3.out, H4.out]
      go_wp2_with fail
      refine (same_any _ _ _ _ _ _ _ _ _ hr3f hr4f (by omega) (by omega)).mono ?_
      rintro e w7 ⟨rfl, j, rfl⟩
      rw [← HD.out]
      have hB7 := below_drewN hB6 j
      clear HD
      generalize ((keyBy l).toList == (keyBy m2).toList) = bb
      go_wp2_with fail
      refine (awake_any _).mono ?_
      rintro e w8 ⟨rfl, hb8⟩
      go_wp2
      go_ret
      exact ⟨rfl, below_then hB7 hb8⟩
    · have H := h2
      clear h2 h1
      have hv1 : (keyErr m2 == 0) = false := beq_false_of_ne H
      have hv2 : (keyErr m2 != 0) = true := bne_iff_ne.2 H
      clear H
      go_wp2_with (go_at_call 12; refine (awake_any _).mono ?_; rintro e w7 ⟨rfl, hb7⟩)
      all_goals
        go_ret
        exact ⟨rfl, below_then hB6 hb7⟩
  · have H := h1
    clear h1
    have hv1 : (keyErr l == 0) = false := beq_false_of_ne H
    have hv2 : (keyErr l != 0) = true := bne_iff_ne.2 H
    clear H
    go_wp2_with (go_at_call 12; refine (awake_any _).mono ?_; rintro e w7 ⟨rfl, hb7⟩)
    all_goals
      go_ret
      exact ⟨rfl, below_then hB6 hb7⟩
end Go.Proofs.Ytnalgjchdenbpaa
