/- heavykeyslaw03.TagsBack returns true, whatever the input. Conditions: none beyond those typed. -/
import Derived.Test.YtnalgjchdenbpaaTlawd
namespace Go.Proofs.Ytnalgjchdenbpaa
open Go.ChangeShapes Go.WideShapes Go.ChangeAt Go.RowKit
set_option linter.unusedVariables false
set_option linter.unusedSimpArgs false

theorem keyBy_size {l : List Tg} (h : keyErr l = 0) : (keyBy l).size ≤ 255 := by
  unfold keyBy; rw [if_pos h]; show (joinT (srt l)).toArray.size ≤ 255; simpa using (keyErr_zero h).2
theorem keyBy_none {l : List Tg} (h : keyErr l ≠ 0) : (keyBy l).toList.isEmpty = true := by
  unfold keyBy; rw [if_neg h, Lib.toList_data]; rfl

set_option maxRecDepth 100000 in
set_option maxHeartbeats 2000000 in
theorem tagsBack_walk (A : Option Addr) (n c : Nat) (w : World) (hA : RdI w A n c) :
    Calls Try.prog 7 #[.slice A n c] w (Yes w) := by
  go_enter Try.func7, Try.ntmps7
  go_wp2_with fail
  refine (list0_any _ _ _ _ hA).mono ?_
  rintro e w1 ⟨A1, n1, c1, l, rfl, hn1, hr1, _, hb1⟩
  go_wp2_with fail
  refine (key_any _ _ _ _ _ hr1 (by omega)).mono ?_
  rintro e w2 ⟨rfl, hb2⟩
  have hr2 := hr1.below hb2
  have hB2 := below_then hb1 hb2
  clear hr1 hb1 hb2 hA
  by_cases h : keyErr l = 0
  · obtain ⟨s1, s2, s3, s4⟩ := split_key h
    have H0 := Lib.hid h
    have S1 := Lib.hid s1
    have S2 := Lib.hid s2
    have S3 := Lib.hid s3
    have S4 := Lib.hid s4
    have H5 := Lib.hid (keyErr_zero h).1
    have H6 : Hid (sortT l = srt l) := Lib.hid (by unfold sortT; rw [if_pos H5.out])
    have hks := keyBy_size h
    clear h s1 s2 s3 s4
    rw [H0.out]
    go_wp2_with fail
    refine (split_any _ _ (by omega)).mono ?_
    rintro e w3 ⟨A3, n3, c3, rfl, hn3, hr3, hb3⟩
    rw [S1.out]
    rw [S2.out] at hr3
    have hr2b := hr2.below hb3
    have hB3 := below_then hB2 hb3
    clear hr2 hb3 hB2
    go_wp2_with fail
    refine (sort_any _ _ _ _ _ hr2b (by omega)).mono ?_
    rintro e w4 ⟨A4, n4, c4, rfl, hn4, hr4, hb4⟩
    rw [H5.out]
    rw [H6.out] at hr4
    have hr3b := hr3.below hb4
    have hB4 := below_then hB3 hb4
    clear hr2b hr3 hb4 hB3
    go_wp2_with fail
    refine (key_any _ _ _ _ _ hr3b (by omega)).mono ?_
    rintro e w5 ⟨rfl, hb5⟩
    rw [S3.out, S4.out]
    have hr3c := hr3b.below hb5
    have hr4c := hr4.below hb5
    have hB5 := below_then hB4 hb5
    clear hr3b hr4 hb5 hB4
    go_wp2_with fail
    refine (same_yes _ _ _ _ _ _ _ _ hr3c hr4c (by omega) (by omega)).mono ?_
    rintro e w6 ⟨rfl, j, rfl⟩
    have hB6 := below_drewN hB5 j
    go_wp2_with fail
    refine (awake_any _).mono ?_
    rintro e w8 ⟨rfl, hb8⟩
    go_wp2
    go_ret
    exact ⟨rfl, below_then hB6 hb8⟩
  · have hv1 : (keyErr l == 0) = false := beq_false_of_ne h
    have hv2 : (keyErr l != 0) = true := bne_iff_ne.2 h
    have hv3 := keyBy_none h
    clear h
    go_wp2_with fail
    refine (awake_any _).mono ?_
    rintro e w8 ⟨rfl, hb8⟩
    go_wp2
    go_ret
    exact ⟨rfl, below_then hB2 hb8⟩
end Go.Proofs.Ytnalgjchdenbpaa
