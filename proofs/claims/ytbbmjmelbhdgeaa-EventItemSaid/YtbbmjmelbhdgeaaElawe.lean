/- heavykeyslaw04.EventEncode returns true, whatever the input. Conditions: none beyond those typed. -/
import Derived.Test.YtbbmjmelbhdgeaaElaws
import Derived.Test.YtbbmjmelbhdgeaaEmade
import Derived.Test.YtbbmjmelbhdgeaaEconv
namespace Go.Proofs.Ytbbmjmelbhdgeaa
open Go.ChangeShapes Go.WideShapes Go.ChangeAt Go.RowKit
set_option linter.unusedVariables false
set_option linter.unusedSimpArgs false
set_option maxRecDepth 100000

/-- Block g holds N events, whose tags read. -/
def Evs (W : World) (g N : Nat) : Prop := ∀ k, k < N → ∃ A n c l t x, W.cell? ⟨g, k * 3, none⟩ = some (.slice A n c) ∧ W.cell? ⟨g, k * 3 + 1, none⟩ = some (.int .i64 t) ∧ W.cell? ⟨g, k * 3 + 2, none⟩ = some (.int .u64 x) ∧
  RdT W A n c l ∧ n ≤ 1000 ∧ (0 ≤ x ∧ x ≤ 18446744073709551615)
theorem Evs.below {W W' : World} {g N : Nat} (h : Evs W g N) (hb : Below W.heap.size W W') : Evs W' g N := by
  intro k hk
  obtain ⟨A, n, c, l, t, x, h0, h1, h2, h3, h4, h5⟩ := h k hk
  have hk := fun (a : Addr) (v : Value) (hc : W.cell? a = some v) => (hb.cell (World.block_lt_of_cell? _ a hc)).trans hc
  exact ⟨A, n, c, l, t, x, hk _ _ h0, hk _ _ h1, hk _ _ h2, h3.below hb, h4, h5⟩
theorem Evs.drewN {W : World} {g N : Nat} (h : Evs W g N) (m : Nat) : Evs (W.drewN m) g N := h

theorem Evs.three {W : World} {A0 A1 A2 : Option Addr} {n0 n1 n2 c0 c1 c2 : Nat} {l0 l1 l2 : List Tg} {t0 t1 t2 x0 x1 x2 : Int} (h0 : RdT W A0 n0 c0 l0) (h1 : RdT W A1 n1 c1 l1) (h2 : RdT W A2 n2 c2 l2)
    (m0 : n0 ≤ 1000) (m1 : n1 ≤ 1000) (m2 : n2 ≤ 1000) (b0 : 0 ≤ x0 ∧ x0 ≤ 18446744073709551615) (b1 : 0 ≤ x1 ∧ x1 ≤ 18446744073709551615) (b2 : 0 ≤ x2 ∧ x2 ≤ 18446744073709551615) {g : Nat} (hg : g = W.heap.size) :
    Evs (W.alloc (.cells #[.slice A0 n0 c0, .int .i64 t0, .int .u64 x0, .slice A1 n1 c1, .int .i64 t1, .int .u64 x1, .slice A2 n2 c2, .int .i64 t2, .int .u64 x2] 25)) g 3 := by
  subst hg
  intro k hk
  match k, hk with
  | 0, _ => exact ⟨A0, n0, c0, l0, t0, x0, by rw [World.cell?_alloc_at _ _ _ _ rfl]; rfl, by rw [World.cell?_alloc_at _ _ _ _ rfl]; rfl, by rw [World.cell?_alloc_at _ _ _ _ rfl]; rfl, h0.alloc _, m0, b0⟩
  | 1, _ => exact ⟨A1, n1, c1, l1, t1, x1, by rw [World.cell?_alloc_at _ _ _ _ rfl]; rfl, by rw [World.cell?_alloc_at _ _ _ _ rfl]; rfl, by rw [World.cell?_alloc_at _ _ _ _ rfl]; rfl, h1.alloc _, m1, b1⟩
  | 2, _ => exact ⟨A2, n2, c2, l2, t2, x2, by rw [World.cell?_alloc_at _ _ _ _ rfl]; rfl, by rw [World.cell?_alloc_at _ _ _ _ rfl]; rfl, by rw [World.cell?_alloc_at _ _ _ _ rfl]; rfl, h2.alloc _, m2, b2⟩

set_option maxHeartbeats 1000000 in
theorem eventEncode_walk (A : Option Addr) (n c : Nat) (l : List Tg) (et ex : Int) (B : Option Addr) (m d : Nat) (t u : Int) (w : World) (hA : ArgT w A n c l) (het : -9223372036854775808 ≤ et ∧ et ≤ 9223372036854775807) (hex : 0 ≤ ex ∧ ex ≤ 18446744073709551615)
    (hB : RdI w B m d) (h1 : -9223372036854775808 ≤ t) (h2 : t ≤ 9223372036854775807) (h3 : 0 ≤ u) (h4 : u ≤ 65535) :
    Calls Try.prog 3 #[.agg #[.slice A n c, .int .i64 et, .int .u64 ex], .slice B m d, .int .i64 t, .int .u16 u] w (Yes w) := by
  have hE0 := EBox.new w A n c et ex
  have hB0 : Below w.heap.size w (w.alloc (.cells #[.slice A n c, .int .i64 et, .int .u64 ex] 25)) := (Below.refl _ w).alloc (Nat.le_refl _) _
  have hA0 := hA.below hB0
  cases hp : plainB n l
  · go_enter Try.func3, Try.ntmps3
    have c0 := hE0.c0
    have c1 := hE0.c1
    have c2 := hE0.c2
    go_wp2_with fail
    refine (plain_any _ _ _ _ _ _ _ hA0).mono ?_
    rintro e w1 ⟨rfl, hb1⟩
    rw [hp]
    go_wp2_with fail
    refine (awake_any _).mono ?_
    rintro e w2 ⟨rfl, hb2⟩
    have hb3 := below_then (below_then hB0 hb1) hb2
    go_wp2
    go_ret
    exact ⟨rfl, hb3⟩
  · obtain ⟨hR0, hn12⟩ := hA0.plain hp
    go_enter Try.func3, Try.ntmps3
    have c0 := hE0.c0
    have c1 := hE0.c1
    have c2 := hE0.c2
    go_wp2_with fail
    refine (plain_any _ _ _ _ _ _ _ hA0).mono ?_
    rintro e w1 ⟨rfl, hb1⟩
    rw [hp]
    have hE1 := hE0.below hb1
    have hB1 := below_then hB0 hb1
    have hR1 := hR0.below hb1
    clear c0 c1 c2 hE0 hB0 hb1 hA0 hR0
    go_wp2_with fail
    refine (new_any _ _ _ _).mono ?_
    rintro e w2 ⟨rfl, rfl⟩
    have hb2 : Below w1.heap.size w1 (w1.alloc (.cells #[.slice B m d, .int .i64 0] 58)) := (Below.refl _ _).alloc (Nat.le_refl _) _
    go_wp2_with fail
    refine (devent_any _ (Dk.new (hB.below hB1))).mono ?_
    rintro e w3 ⟨A3, n3, c3, l3, x3, rfl, hR3, hn3, -, hx3, hD3, hg3⟩
    have hb3 : Below w1.heap.size w1 w3 := hD3.low
    have hE3 := hE1.below hb3
    have hB3 := below_then hB1 hb3
    have hR1' := hR1.below hb3
    clear hE1 hB1 hR1 hb2 hg3 hD3 hb3
    have hX3 := EBox.new w3 A3 n3 c3 t x3
    have hb4 : Below w3.heap.size w3 (w3.alloc (.cells #[.slice A3 n3 c3, .int .i64 t, .int .u64 x3] 25)) := (Below.refl _ _).alloc (Nat.le_refl _) _
    have hE4 := hE3.below hb4
    have hB4 := below_then hB3 hb4
    have hR4 := hR1'.below hb4
    have hS4 := hR3.below hb4
    clear hE3 hB3 hR1' hR3
    have hu : u.tmod 5000 = ((u.toNat % 5000 : Nat) : Int) := by
      obtain ⟨v, rfl⟩ := Int.eq_ofNat_of_zero_le h3
      rfl
    obtain ⟨v, hv⟩ : ∃ v, v = u.toNat % 5000 := ⟨_, rfl⟩
    rw [← hv] at hu
    have hv5 : v < 5000 := by omega
    have hL : u % 5000 = (v : Int) := by rw [hv]; omega
    obtain ⟨i0, hi0, hz0, hz1, hz2⟩ := info_parts info_u8
    have hby : i0.bytes * v ≤ 281474976710656 := by rw [hz2]; omega
    have HZ2 := Lib.hid hz2
    have hmx : v ≤ maxLen := by simp only [maxLen]; omega
    clear hz2 hu hv
    go_wp2_with (at_make; refine wpList_make_full _ rfl _ _ 33 rfl (w3.alloc (.cells #[.slice A3 n3 c3, .int .i64 t, .int .u64 x3] 25)).heap.size 5 i0 (.int .u8 0) 1 Try.underlying33 hi0 hz0 hz1 _ _ _ _ v rfl rfl hL hL hby hmx (Nat.le_refl _) ?_)
    · intro w5 hown hgrow
      obtain ⟨g3, hg3⟩ : ∃ g3, g3 = w3.heap.size := ⟨_, rfl⟩
      rw [← hg3] at hX3 hown ⊢
      generalize w3.alloc (.cells #[.slice A3 n3 c3, .int .i64 t, .int .u64 x3] 25) = w4 at *
      clear hg3 hb4
      have hb5 : Below w4.heap.size w4 w5 := (Below.refl _ _).grown hgrow (Nat.le_refl _) (fun k hk => by cases hk)
      have hZ := Rd.zeros hown hmx
      have hC := conv_bS hZ
      have hsz := bS_size (List.replicate v 0)
      rw [List.length_replicate] at hsz
      have hE5 := hE4.below hb5
      have hX5 := hX3.below hb5
      have hB5 := below_then hB4 hb5
      have hR5 := hR4.below hb5
      have hS5 := hS4.below hb5
      generalize hs : bS (List.replicate v 0) = s at *
      clear hown hgrow hZ hs hE4 hX3 hB4 hR4 hS4 hb5
      have hT6 := RdT.one w5 ⟨#[97]⟩ s (by decide) (by omega)
      have hb6 : Below w5.heap.size w5 (w5.alloc (.cells #[.string ⟨#[97]⟩, .string s] 35)) := (Below.refl _ _).alloc (Nat.le_refl _) _
      have hb7 := hb6.alloc hb6.size (.cells #[.slice (some ⟨w5.heap.size, 0, none⟩) 1 1, .int .i64 0, .int .u64 0] 25)
      have hZ7 := EBox.new (w5.alloc (.cells #[.string ⟨#[97]⟩, .string s] 35)) (some ⟨w5.heap.size, 0, none⟩) 1 1 0 0
      rw [show (w5.alloc (.cells #[.string ⟨#[97]⟩, .string s] 35)).heap.size = w5.heap.size + 1 from by simp] at hZ7
      have hT7 := hT6.alloc (.cells #[.slice (some ⟨w5.heap.size, 0, none⟩) 1 1, .int .i64 0, .int .u64 0] 25)
      have hE7 := hE5.below hb7
      have hX7 := hX5.below hb7
      have hR7 := hR5.below hb7
      have hS7 := hS5.below hb7
      have hB7 := below_then hB5 hb7
      have hV := Evs.three (t0 := et) (t1 := t) (t2 := 0) (x2 := 0) hR7 hS7 hT7 (by omega) (by omega) (by omega) hex hx3 (by omega) (g := w5.heap.size + 1 + 1) (by simp)
      have hb8 := hB7.alloc hB7.size (.cells #[.slice A n c, .int .i64 et, .int .u64 ex, .slice A3 n3 c3, .int .i64 t, .int .u64 x3, .slice (some ⟨w5.heap.size, 0, none⟩) 1 1, .int .i64 0, .int .u64 0] 25)
      have c0 := hE7.c0
      have c1 := hE7.c1
      have c2 := hE7.c2
      have d0 := hX7.c0
      have d1 := hX7.c1
      have d2 := hX7.c2
      have e0 := hZ7.c0
      have e1 := hZ7.c1
      have e2 := hZ7.c2
      clear hE7 hX7 hZ7 hR7 hS7 hT7 hB7 hb7 hb6 hT6 hR5 hS5 hB5 hX5 hE5
      go_wp2
      clear c0 c1 c2 d0 d1 d2 e0 e1 e2
      generalize hG : w5.heap.size + 1 + 1 = G at *
      generalize ((w5.alloc (.cells #[.string ⟨#[97]⟩, .string s] 35)).alloc (.cells #[.slice (some ⟨w5.heap.size, 0, none⟩) 1 1, .int .i64 0, .int .u64 0] 25)).alloc (.cells #[.slice A n c, .int .i64 et, .int .u64 ex, .slice A3 n3 c3, .int .i64 t, .int .u64 x3, .slice (some ⟨w5.heap.size, 0, none⟩) 1 1, .int .i64 0, .int .u64 0] 25) = W0 at *
      clear hG hC hsz hby hi0 hz0 hz1 HZ2 hL
      go_loopw [38] (fun i W => ∃ k : Nat, k ≤ 3 ∧ Below W0.heap.size W0 W ∧ i = .int .i64 k) (fun i _ => 3 - (intOf i).toNat)
      case atStart => exact ⟨0, by omega, Below.refl _ _, rfl⟩
      case round =>
        obtain ⟨k, hk, hb, rfl⟩ := hrel
        by_cases hlt : k < 3
        · obtain ⟨Ak, nk, ck, lk, tk, xk, a0, a1, a2, hRk, hnk, hxk⟩ := (hV.below hb) k hlt
          have hbG := World.block_lt_of_cell? _ _ a0
          have hX := EBox.new wr Ak nk ck tk xk
          have y0 := hX.c0
          have y1 := hX.c1
          have y2 := hX.c2
          have hb5 := hb.alloc hb.size (.cells #[.slice Ak nk ck, .int .i64 tk, .int .u64 xk] 25)
          go_wp2_with fail
          refine (encode_any _ _ _ lk _ _ _ (hRk.alloc _) hnk hxk).mono ?_
          rintro e w6 ⟨A6, n6, c6, rfl, hr6, hb6⟩
          have hX6 := hX.below hb6
          have hR6 := (hRk.alloc (.cells #[.slice Ak nk ck, .int .i64 tk, .int .u64 xk] 25)).below hb6
          have hb7 := below_then hb5 hb6
          clear y0 y1 y2 hX hb5 hb6 hRk a0 a1 a2
          have y0 := hX6.c0
          have y1 := hX6.c1
          have y2 := hX6.c2
          go_wp2_with fail
          refine (revent_any _ _ _ lk _ _ _ hR6 hnk hxk).mono ?_
          rintro e w7 ⟨A7, n7, c7, rfl, hr7, hb8'⟩
          obtain rfl : n6 = n7 := hr6.len.symm.trans hr7.len
          have hr6' := hr6.below hb8'
          have hb9 := below_then hb7 hb8'
          clear y0 y1 y2 hX6 hr6 hR6 hb8' hb7
          generalize encE lk tk = ze at *
          go_wp2_with fail
          refine (same_yes _ _ _ _ _ _ _ hr6' hr7).mono ?_
          rintro e w8 ⟨rfl, j, rfl⟩
          have hb10 := below_drewN hb9 j
          clear hr6' hr7 hb9
          go_wp2
          go_roundw
          case rel => exact ⟨k + 1, by omega, hb10, by go_num⟩
          case measure => (simp [intOf] <;> omega)
        · go_wp2_with fail
          refine (awake_any _).mono ?_
          rintro e w6 ⟨rfl, hb6⟩
          have hb7 := below_then (below_then hb8 hb) hb6
          go_wp2
          go_ret
          exact ⟨rfl, hb7⟩
end Go.Proofs.Ytbbmjmelbhdgeaa
