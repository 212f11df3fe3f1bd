/- heavykeyslaw06.StreamLong returns true, whatever the input. Conditions: none beyond those typed. -/
import Derived.Test.YtfihaonpifoekaaHlaws
namespace Go.Proofs.Ytfihaonpifoekaa
open Go.ChangeShapes Go.WideShapes Go.ChangeAt Go.RowKit
set_option linter.unusedVariables false
set_option linter.unusedSimpArgs false
set_option maxRecDepth 100000

theorem zeros_byt (q : Nat) : Byt (List.replicate q 0) := fun z hz => by have := (List.mem_replicate.1 hz).2; omega
theorem long_feed {q : Nat} {x : List Int} (h : 4096 < q) (hq : q ≤ 10000) (hx : Byt x) (hl : x.length ≤ 4096) :
    feed st0 (((([] : List Int) ++ enc q) ++ List.replicate q 0) ++ enc x.length ++ x) = (([], 0, false), [([], 2), (x, 0)]) := by
  rw [List.nil_append, List.append_assoc, feed_append, feed_long (by omega) h (by simp), feed_frame hx hl]
  rfl
set_option maxHeartbeats 2000000 in
theorem streamLong_walk (u : Int) (A : Option Addr) (k c : Nat) (w : World) (hu0 : 0 ≤ u) (hu1 : u ≤ 65535) (hA : Arg w A k c) :
    Calls Try.prog 6 #[.int .u16 u, .slice A k c] w (Yes w) := by
  obtain ⟨hk1, hk2, la, hRa⟩ := hA
  obtain ⟨j, hj⟩ : ∃ j : Nat, min (k : Int) 200 = j := ⟨(min (k : Int) 200).toNat, by omega⟩
  have hjk : j ≤ k := by omega
  have hj3 : j ≤ 200 := by omega
  have hjki : (j : Int) ≤ (k : Int) := by omega
  have hjci : (j : Int) ≤ (c : Int) := by omega
  have hRj := hRa.take hjk
  generalize la.take j = x at *
  have hxl := hRj.len
  obtain ⟨q, hq⟩ : ∃ q : Nat, (4097 : Int) + u % 2000 = q := ⟨(4097 + u % 2000).toNat, by omega⟩
  have hq2 : (4097 : Int) + u.tmod 2000 = q := by rw [Int.tmod_eq_emod_of_nonneg hu0]; exact hq
  have hq1 : 4096 < q := by omega
  have hq3 : q ≤ 10000 := by omega
  have HF := Lib.hid (long_feed hq1 hq3 hRj.bytes (by omega))
  go_enter Try.func6, Try.ntmps6
  go_wp2_with fail
  refine (rappend_own none 0 0 [] (q : Int) w (Rd.nil _ _ _ (by simp [maxLen])) (by omega) (by omega)).mono ?_
  rintro e w1 ⟨v1, rfl, O1, hb1⟩
  rw [Int.toNat_natCast] at O1
  have he1 := enc_ten (n := q) (by omega)
  have hl1 : (([] : List Int) ++ enc q).length ≤ 10 := by rw [List.nil_append]; exact he1
  have hbz : (([] : List Int) ++ enc q).length + q ≤ 140737488355328 := by omega
  go_wp2_with (at_builtin; refine wpList_appZ rfl (.tmp 20) (.tmp 21) rfl w.heap.size v1 _ rfl q rfl O1 hbz hb1.size ?_; intro v2 w2 O2 G2 _; obtain ⟨A2, n2, c2, e2, r2⟩ := O2.form; subst e2; have hb2 := Below.app hb1 O1 G2 hb1.size (Nat.le_refl _))
  have hn2 := r2.len
  have hl2 : (([] : List Int) ++ enc q ++ List.replicate q 0).length ≤ 10 + q := by rw [List.length_append, List.length_replicate]; omega
  clear O1 G2 hb1 O2 hbz
  generalize hb0 : ([] : List Int) ++ enc q ++ List.replicate q 0 = b0 at *
  clear hb0
  refine (rappend_own A2 n2 c2 b0 (j : Int) w2 r2 (by omega) (by omega)).mono ?_
  rintro e w3 ⟨v3, rfl, O3, hb3⟩
  rw [Int.toNat_natCast, ← hxl] at O3
  have hb4 := below_then hb2 hb3
  have he3 := enc_ten (n := x.length) (by omega)
  have hl3 : (b0 ++ enc x.length).length + j ≤ 140737488355328 := by rw [List.length_append]; omega
  have hR3 := hRj.below hb4
  have hb2s := hb2.size
  clear hb2 r2
  go_wp2_with (at_builtin; refine wpList_app rfl (.tmp 27) (.tmp 28) rfl w2.heap.size v3 _ rfl A j c x rfl O3 hR3 hl3 hb3.size ?_; intro v5 w5 O5 G5 _; obtain ⟨A5, n5, c5, e5, r5⟩ := O5.form; subst e5; have hb5 := Below.app hb4 (O3.weaken hb2s) G5 hb4.size (Nat.le_refl _))
  have hn5 := r5.len
  rw [List.length_append, List.length_append] at hn5
  refine (feed_any none 0 0 st0 A5 n5 c5 _ w5 sound0 (Rd.nil _ _ _ (by simp [maxLen])) r5 (fun _ => by omega)).mono ?_
  intro e w7 h7
  rw [HF.out] at h7
  obtain ⟨A7, n7, c7, C7, m7, d7, rfl, r7, q7, b7⟩ := h7.rdC
  have hb7 := below_then hb5 b7
  have hm7 := q7.len
  have hn7 := r7.len
  simp at hm7 hn7
  subst hm7 hn7
  have hRx := hRj.below hb7
  clear h7 r5 O5 G5 hb4 hR3 hb5 b7 hb3 O3
  obtain ⟨g2, o2, A4, n4, c4, l4, v4, rfl, hz4, hb4, x0, x1, hr4⟩ := q7.at_ (k := 0) (by omega)
  obtain ⟨g2', o2', A6, n6, c6, l6, v6, e6, hz6, hb6, y0, y1, hr6⟩ := q7.at_ (k := 1) (by omega)
  injection e6 with e6
  injection e6 with e6 e7
  subst e6 e7
  simp at hz4 hz6
  obtain ⟨rfl, rfl⟩ := hz4
  obtain ⟨rfl, rfl⟩ := hz6
  have hn6 := hr6.len
  obtain rfl : j = n6 := by omega
  have hcap2 := q7.cap
  have hmx2 := q7.max
  simp only [Nat.zero_mul, Nat.one_mul, Nat.add_zero, Nat.add_assoc, Nat.reduceMul, Nat.reduceAdd] at x0 x1 y0 y1
  clear q7
  go_wp2_with fail
  have hbA : Below w7.heap.size w7 (w7.alloc (.cells #[.slice A7 0 c7, .int .u64 0, .bool false] 29)) := (Below.refl _ _).alloc (Nat.le_refl _) _
  have T7 := SBox.new w7 A7 0 c7 0 false
  refine (same_yes A6 A j c6 c x _ (hr6.below hbA) (hRx.below hbA)).mono ?_
  rintro e w8 ⟨rfl, i8, rfl⟩
  have hb8 := below_drewN (below_then hb7 hbA) i8
  have r8 := (r7.below hbA).drewN i8
  have T8 : SBox ((w7.alloc (.cells #[.slice A7 0 c7, .int .u64 0, .bool false] 29)).drewN i8) w7.heap.size A7 0 c7 0 false := T7
  clear hr4 hr6 hRx r7 hbA T7 x0 x1 y0 y1 hb7
  generalize (w7.alloc (.cells #[.slice A7 0 c7, .int .u64 0, .bool false] 29)).drewN i8 = W8 at *
  have z0 := T8.c0
  have z1 := T8.c1
  have z2 := T8.c2
  go_wp2_with fail
  refine (idle_any A7 0 c7 ([], 0, false) W8 r8).mono ?_
  rintro e w9 ⟨rfl, hb9⟩
  rw [show idleB ([], 0, false) = true from by decide]
  have hb10 := below_then hb8 hb9
  clear hb8 hb9 r8 T8 z0 z1 z2
  go_wp2_with fail
  refine (awake_any _).mono ?_
  rintro e w11 ⟨rfl, hb11⟩
  have hb12 := below_then hb10 hb11
  go_wp2
  go_ret
  exact ⟨rfl, hb12⟩
end Go.Proofs.Ytfihaonpifoekaa
