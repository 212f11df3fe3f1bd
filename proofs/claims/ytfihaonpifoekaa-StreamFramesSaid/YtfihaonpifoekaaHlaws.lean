/- What the statements about package stream share: awake. Conditions: none beyond those typed. -/
import Derived.Test.YtfihaonpifoekaaSrfeed
import Derived.Test.YtfihaonpifoekaaSsame
import Derived.Test.YtfihaonpifoekaaHbytes
namespace Go.Proofs.Ytfihaonpifoekaa
open Go.ChangeShapes Go.WideShapes Go.ChangeAt Go.RowKit
set_option linter.unusedVariables false
set_option linter.unusedSimpArgs false
set_option maxRecDepth 100000

theorem fd1 : feed st0 [2, 7] = (([2, 7], 0, false), []) := by decide +kernel
theorem fd2 : feed ([2, 7], 0, false) [9, 0] = (([], 0, false), [([7, 9], 0), ([], 0)]) := by decide +kernel
theorem fd3 : feed st0 [129, 32] = (([], 4097, false), [([], 2)]) := by decide +kernel
theorem byt2 {x y : Int} (hx : 0 ≤ x ∧ x ≤ 255) (hy : 0 ≤ y ∧ y ≤ 255) : Byt [x, y] := fun z hz => by
  rcases List.mem_cons.1 hz with rfl | hz
  · exact hx
  · rcases List.mem_cons.1 hz with rfl | hz
    · exact hy
    · simp at hz
theorem sound27 : Sound6 ([2, 7], 0, false) := by
  have := feed_sound (s := st0) [2, 7] sound0 (byt2 (by omega) (by omega))
  rw [fd1] at this; exact this
set_option maxHeartbeats 1000000 in
theorem awake_any (w : World) : Calls Try.prog 15 #[] w (Yes w) := by
  have hl0 := Rd.lit [2, 7] w (byt2 (by omega) (by omega)) (by simp [maxLen])
  have hB0 : Below w.heap.size w (w.alloc (.cells ([2, 7].map (Value.int .u8)).toArray 5)) := (Below.refl _ _).alloc (Nat.le_refl _) _
  go_enter Try.func15, Try.ntmps15
  go_wp2_with fail
  refine (feed_any none 0 0 st0 _ 2 2 [2, 7] _ sound0 (Rd.nil _ _ _ (by simp [maxLen])) hl0 (by simp)).mono ?_
  intro e w1 h1
  rw [fd1] at h1
  obtain ⟨A1, n1, c1, C1, m1, d1, rfl, hr1, hc1, hb1⟩ := h1.rdC
  have hB1 := below_then hB0 hb1
  have hm1 := hc1.len
  simp at hm1
  subst hm1
  clear h1 hB0 hb1 hc1 hl0
  go_wp2_with fail
  have hb2 : Below w1.heap.size w1 ((w1.alloc (.cells #[.slice A1 n1 c1, .int .u64 0, .bool false] 29)).alloc (.cells #[.int .u8 9, .int .u8 0] 5)) := ((Below.refl _ _).alloc (Nat.le_refl _) _).alloc (by simp) _
  have hl2 := Rd.lit [9, 0] (w1.alloc (.cells #[.slice A1 n1 c1, .int .u64 0, .bool false] 29)) (byt2 (by omega) (by omega)) (by simp [maxLen])
  rw [show (w1.alloc (.cells #[.slice A1 n1 c1, .int .u64 0, .bool false] 29)).heap.size = w1.heap.size + 1 from by simp] at hl2
  refine (feed_any A1 n1 c1 ([2, 7], 0, false) _ 2 2 [9, 0] _ sound27 (hr1.below hb2) hl2 (by simp)).mono ?_
  intro e w2 h2
  rw [fd2] at h2
  obtain ⟨A2, n2, c2, C2, m2, d2, rfl, hr2, hc2, hb3⟩ := h2.rdC
  have hB2 := below_then (below_then hB1 hb2) hb3
  have hm2 := hc2.len
  simp at hm2
  subst hm2
  clear h2 hb2 hl2 hb3 hB1 hr1 hr2
  go_wp2_with fail
  have hb4 : Below w2.heap.size w2 ((w2.alloc (.cells #[.slice A2 n2 c2, .int .u64 0, .bool false] 29)).alloc (.cells #[.int .u8 129, .int .u8 32] 5)) := ((Below.refl _ _).alloc (Nat.le_refl _) _).alloc (by simp) _
  have hl4 := Rd.lit [129, 32] (w2.alloc (.cells #[.slice A2 n2 c2, .int .u64 0, .bool false] 29)) (byt2 (by omega) (by omega)) (by simp [maxLen])
  rw [show (w2.alloc (.cells #[.slice A2 n2 c2, .int .u64 0, .bool false] 29)).heap.size = w2.heap.size + 1 from by simp] at hl4
  refine (feed_any none 0 0 st0 _ 2 2 [129, 32] _ sound0 (Rd.nil _ _ _ (by simp [maxLen])) hl4 (by simp)).mono ?_
  intro e w3 h3
  rw [fd3] at h3
  obtain ⟨A3, n3, c3, C3, m3, d3, rfl, hr3, hc3, hb5⟩ := h3.rdC
  have hb6 := below_then hb4 hb5
  have hc2' := (hc2.below hb6)
  have hB3 := below_then hB2 hb6
  have hm3 := hc3.len
  simp at hm3
  subst hm3
  clear h3 hb4 hl4 hb5 hb6 hB2 hc2 hr3
  obtain ⟨g2, o2, A4, n4, c4, l4, v4, rfl, hz4, hb4, x0, x1, hr4⟩ := hc2'.at_ (k := 0) (by omega)
  obtain ⟨g2', o2', A5, n5, c5, l5, v5, e5, hz5, hb5, y0, y1, hr5⟩ := hc2'.at_ (k := 1) (by omega)
  injection e5 with e5
  injection e5 with e5 e6
  subst e5 e6
  obtain ⟨g3, o3, A6, n6, c6, l6, v6, rfl, hz6, hb6, z0, z1, hr6⟩ := hc3.at_ (k := 0) (by omega)
  simp at hz4 hz5 hz6
  obtain ⟨rfl, rfl⟩ := hz4
  obtain ⟨rfl, rfl⟩ := hz5
  obtain ⟨rfl, rfl⟩ := hz6
  have hn4 := hr4.len
  have hn5 := hr5.len
  simp at hn4 hn5
  subst hn4 hn5
  have hcap2 := hc2'.cap
  have hmx2 := hc2'.max
  have hcap3 := hc3.cap
  have hmx3 := hc3.max
  simp only [Nat.zero_mul, Nat.one_mul, Nat.add_zero, Nat.add_assoc, Nat.reduceMul, Nat.reduceAdd] at x0 x1 y0 y1 z0 z1
  clear hc2' hc3
  go_wp2_with fail
  have hb7 : Below w3.heap.size w3 ((w3.alloc (.cells #[.slice A3 n3 c3, .int .u64 4097, .bool false] 29)).alloc (.cells #[.int .u8 7, .int .u8 9] 5)) := ((Below.refl _ _).alloc (Nat.le_refl _) _).alloc (by simp) _
  have hl7 := Rd.lit [7, 9] (w3.alloc (.cells #[.slice A3 n3 c3, .int .u64 4097, .bool false] 29)) (byt2 (by omega) (by omega)) (by simp [maxLen])
  rw [show (w3.alloc (.cells #[.slice A3 n3 c3, .int .u64 4097, .bool false] 29)).heap.size = w3.heap.size + 1 from by simp] at hl7
  have T7 := (SBox.new w3 A3 n3 c3 4097 false).below ((Below.refl _ _).alloc (Nat.le_refl _) (.cells #[.int .u8 7, .int .u8 9] 5))
  obtain ⟨W7, hW7⟩ : ∃ W7, W7 = ((w3.alloc (.cells #[.slice A3 n3 c3, .int .u64 4097, .bool false] 29)).alloc (.cells #[.int .u8 7, .int .u8 9] 5)) := ⟨_, rfl⟩
  have hl7' : Rd W7 (some ⟨w3.heap.size + 1, 0, none⟩) 2 2 [7, 9] := hW7 ▸ hl7
  rw [← hW7] at hb7 T7 ⊢
  refine (same_yes A4 (some ⟨w3.heap.size + 1, 0, none⟩) 2 c4 2 [7, 9] W7 (hr4.below hb7) hl7').mono ?_
  rintro e w8 ⟨rfl, j, rfl⟩
  have hB7 := below_then hB3 hb7
  have y0' : W7.cell? ⟨g2, o2 + 2, none⟩ = some (.slice A5 0 c5) := (hb7.cell hb5).trans y0
  have z1' : W7.cell? ⟨g3, o3 + 1, none⟩ = some (.int .i64 2) := (hb7.cell hb6).trans z1
  have t1 := T7.c1
  clear hl7 hl7' hW7 hr4 hr5 hr6 x0 x1 y0 y1 z0 z1 T7 hB3
  go_wp2
  go_ret
  exact ⟨rfl, below_drewN hB7 _⟩
end Go.Proofs.Ytfihaonpifoekaa
