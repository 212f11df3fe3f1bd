/- heavykeyslaw04.EventItem returns true, whatever the input. Conditions: none beyond those typed. -/
import Derived.Test.YtbbmjmelbhdgeaaElawe
namespace Go.Proofs.Ytbbmjmelbhdgeaa
open Go.ChangeShapes Go.WideShapes Go.ChangeAt Go.RowKit
set_option linter.unusedVariables false
set_option linter.unusedSimpArgs false
set_option maxRecDepth 100000

theorem fields_item : Try.prog.underlying 49 = some (.struct (Try.prog.fieldsOf 49)) := by
  unfold Program.fieldsOf; rw [Try.underlying49]
theorem eqIn_item (s : ByteArray) (t x : Int) (w : World) : (Op.equalIn 10000 49 (.agg #[.string s, .int .i64 t, .int .u64 x]) (.agg #[.string s, .int .i64 t, .int .u64 x])).run Try.prog w = .ok true w := by
  have h9 := fun w => Try.isAgg9 w
  have h8 := fun w => Try.isAgg3 w
  have h7 := fun w => Try.isAgg23 w
  rw [run_equalIn_agg w 9999 _ _ _ fields_item (by kernel_rfl)]
  unfold Program.fieldsOf
  rw [Try.underlying49]
  have e1 : ∀ (a b : ByteArray) (d : Nat) (w : World), (Op.equalIn (d + 1) 9 (.string a) (.string b)).run Try.prog w = .ok (decide (a = b)) w := fun a b d w => by
    rw [run_equalIn_string w d _ a b Try.underlying9, str_beq]
  simp [Op.eqFields, part, h9, h8, h7]
  rw [e1]
  simp [Result.andThen, run_equalIn_int]

theorem itV_form (l : List Tg) (t x : Int) : ∃ s p q, itV l t x = .agg #[.string s, .int .i64 p, .int .u64 q] := by
  unfold itV
  split
  · exact ⟨_, _, _, rfl⟩
  · exact ⟨_, _, _, rfl⟩

set_option maxHeartbeats 1000000 in
theorem eventItem_walk (A : Option Addr) (n c : Nat) (l : List Tg) (et ex : Int) (B : Option Addr) (m d : Nat) (t : Int) (w : World) (hA : ArgT w A n c l) (het : -9223372036854775808 ≤ et ∧ et ≤ 9223372036854775807) (hex : 0 ≤ ex ∧ ex ≤ 18446744073709551615)
    (hB : RdI w B m d) (h1 : -9223372036854775808 ≤ t) (h2 : t ≤ 9223372036854775807) :
    Calls Try.prog 5 #[.agg #[.slice A n c, .int .i64 et, .int .u64 ex], .slice B m d, .int .i64 t] w (Yes w) := by
  have hE0 := EBox.new w A n c et ex
  have hB0 : Below w.heap.size w (w.alloc (.cells #[.slice A n c, .int .i64 et, .int .u64 ex] 25)) := (Below.refl _ w).alloc (Nat.le_refl _) _
  have hA0 := hA.below hB0
  cases hp : plainB n l
  · go_enter Try.func5, Try.ntmps5
    have c0 := hE0.c0
    have c1 := hE0.c1
    have c2 := hE0.c2
    go_wp2_with fail
    refine (plain_any _ _ _ _ _ _ _ hA0).mono ?_
    rintro e w1 ⟨rfl, hb1⟩
    rw [hp]
    go_wp2_with fail
    refine (awake_any _).mono ?_
    rintro e w2 ⟨rfl, hb2⟩
    have hb3 := below_then (below_then hB0 hb1) hb2
    go_wp2
    go_ret
    exact ⟨rfl, hb3⟩
  · obtain ⟨hR0, hn12⟩ := hA0.plain hp
    go_enter Try.func5, Try.ntmps5
    have c0 := hE0.c0
    have c1 := hE0.c1
    have c2 := hE0.c2
    go_wp2_with fail
    refine (plain_any _ _ _ _ _ _ _ hA0).mono ?_
    rintro e w1 ⟨rfl, hb1⟩
    rw [hp]
    have hE1 := hE0.below hb1
    have hB1 := below_then hB0 hb1
    have hR1 := hR0.below hb1
    clear c0 c1 c2 hE0 hB0 hb1 hA0 hR0
    go_wp2_with fail
    refine (new_any _ _ _ _).mono ?_
    rintro e w2 ⟨rfl, rfl⟩
    have hb2 : Below w1.heap.size w1 (w1.alloc (.cells #[.slice B m d, .int .i64 0] 58)) := (Below.refl _ _).alloc (Nat.le_refl _) _
    go_wp2_with fail
    refine (devent_any _ (Dk.new (hB.below hB1))).mono ?_
    rintro e w3 ⟨A3, n3, c3, l3, x3, rfl, hR3, hn3, -, hx3, hD3, hg3⟩
    have hb3 : Below w1.heap.size w1 w3 := hD3.low
    have hE3 := hE1.below hb3
    have hB3 := below_then hB1 hb3
    have hR1' := hR1.below hb3
    clear hE1 hB1 hR1 hb2 hg3 hD3 hb3
    have hX3 := EBox.new w3 A3 n3 c3 t x3
    have hb4 : Below w3.heap.size w3 (w3.alloc (.cells #[.slice A3 n3 c3, .int .i64 t, .int .u64 x3] 25)) := (Below.refl _ _).alloc (Nat.le_refl _) _
    have hE4 := hE3.below hb4
    have hB4 := below_then hB3 hb4
    have hR4 := hR1'.below hb4
    have hS4 := hR3.below hb4
    clear hE3 hB3 hR1' hR3
    go_wp2_with fail
    go_wp2_with fail
    refine (new_any _ _ _ _).mono ?_
    rintro e w5 ⟨rfl, rfl⟩
    have hD := Dk.new (hB.below hB4)
    rw [show (w3.alloc (.cells #[.slice A3 n3 c3, .int .i64 t, .int .u64 x3] 25)).heap.size = w3.heap.size + 1 from by simp] at hD
    go_wp2_with fail
    refine (devent_any _ hD).mono ?_
    rintro e w5 ⟨A5, n5, c5, l5, x5, rfl, hR5, hn5, -, hx5, hD5, hg5⟩
    have hb5 := hD5.low
    have hE5 := hE4.below hb5
    have hX5 := hX3.below hb5
    have hB5 := below_then hB4 hb5
    have hR5' := hR4.below hb5
    have hS5 := hS4.below hb5
    generalize bits .and .i64 t 4095 = t2 at *
    clear hE4 hX3 hB4 hR4 hS4 hg5 hD5 hb5 hD hb4
    have hb6 : Below w5.heap.size w5 (w5.alloc (.cells #[.slice A5 n5 c5, .int .i64 t2, .int .u64 x5] 25)) := (Below.refl _ _).alloc (Nat.le_refl _) _
    have hZ7 := EBox.new w5 A5 n5 c5 t2 x5
    have hE7 := hE5.below hb6
    have hX7 := hX5.below hb6
    have hR7 := hR5'.below hb6
    have hS7 := hS5.below hb6
    have hT7 := hR5.below hb6
    have hB7 := below_then hB5 hb6
    have hV := Evs.three (t0 := et) (t1 := t) (t2 := t2) hR7 hS7 hT7 (by omega) (by omega) (by omega) hex hx3 hx5 (g := w5.heap.size + 1) (by simp)
    have hb8 := hB7.alloc hB7.size (.cells #[.slice A n c, .int .i64 et, .int .u64 ex, .slice A3 n3 c3, .int .i64 t, .int .u64 x3, .slice A5 n5 c5, .int .i64 t2, .int .u64 x5] 25)
    have c0 := hE7.c0
    have c1 := hE7.c1
    have c2 := hE7.c2
    have d0 := hX7.c0
    have d1 := hX7.c1
    have d2 := hX7.c2
    have e0 := hZ7.c0
    have e1 := hZ7.c1
    have e2 := hZ7.c2
    clear hE7 hX7 hZ7 hR7 hS7 hT7 hB7 hb6 hR5 hS5 hR5' hB5 hX5 hE5
    go_wp2
    clear c0 c1 c2 d0 d1 d2 e0 e1 e2
    generalize hG : w5.heap.size + 1 = G at *
    generalize ((w5.alloc (.cells #[.slice A5 n5 c5, .int .i64 t2, .int .u64 x5] 25)).alloc (.cells #[.slice A n c, .int .i64 et, .int .u64 ex, .slice A3 n3 c3, .int .i64 t, .int .u64 x3, .slice A5 n5 c5, .int .i64 t2, .int .u64 x5] 25)) = W0 at *
    clear hG
    go_loopw [33] (fun i W => ∃ k : Nat, k ≤ 3 ∧ Below W0.heap.size W0 W ∧ i = .int .i64 k) (fun i _ => 3 - (intOf i).toNat)
    case atStart => exact ⟨0, by omega, Below.refl _ _, rfl⟩
    case round =>
      obtain ⟨k, hk, hb, rfl⟩ := hrel
      by_cases hlt : k < 3
      · obtain ⟨Ak, nk, ck, lk, tk, xk, a0, a1, a2, hRk, hnk, hxk⟩ := (hV.below hb) k hlt
        have hbG := World.block_lt_of_cell? _ _ a0
        have hX := EBox.new wr Ak nk ck tk xk
        have y0 := hX.c0
        have y1 := hX.c1
        have y2 := hX.c2
        have hb5 := hb.alloc hb.size (.cells #[.slice Ak nk ck, .int .i64 tk, .int .u64 xk] 25)
        obtain ⟨s, p, q, hv⟩ := itV_form lk tk xk
        go_wp2_with fail
        refine (item_any _ _ _ lk _ _ _ (hRk.alloc _) hnk).mono ?_
        rintro e w6 ⟨rfl, hb6⟩
        rw [hv]
        have hX6 := hX.below hb6
        have hR6 := (hRk.alloc (.cells #[.slice Ak nk ck, .int .i64 tk, .int .u64 xk] 25)).below hb6
        have hb7 := below_then hb5 hb6
        clear y0 y1 y2 hX hb5 hb6 hRk a0 a1 a2
        have hI := IBox.new w6 s p q
        have hbI : Below w6.heap.size w6 (w6.alloc (.cells #[.string s, .int .i64 p, .int .u64 q] 49)) := (Below.refl _ _).alloc (Nat.le_refl _) _
        have hX7 := hX6.below hbI
        have y0 := hX7.c0
        have y1 := hX7.c1
        have y2 := hX7.c2
        have hR7 := hR6.below hbI
        have hb8' := below_then hb7 hbI
        clear hX6 hR6 hb7 hbI
        go_wp2_with fail
        refine (ritem_any _ _ _ lk _ _ _ hR7 hnk).mono ?_
        rintro e w7 ⟨rfl, hb9⟩
        rw [hv]
        have hI7 := hI.below hb9
        have hb10 := below_then hb8' hb9
        clear hI y0 y1 y2 hX7 hR7 hb8' hb9
        have hJ := IBox.new w7 s p q
        have hbJ : Below w7.heap.size w7 (w7.alloc (.cells #[.string s, .int .i64 p, .int .u64 q] 49)) := (Below.refl _ _).alloc (Nat.le_refl _) _
        have hI8 := hI7.below hbJ
        have hb11 := below_then hb10 hbJ
        have i0 := hI8.c0
        have i1 := hI8.c1
        have i2 := hI8.c2
        have j0 := hJ.c0
        have j1 := hJ.c1
        have j2 := hJ.c2
        have hQ := eqIn_item s p q
        generalize itE lk tk xk = ze at *
        clear hI8 hJ hb10 hbJ hI7 hv
        go_wp2
        go_roundw
        case rel => exact ⟨k + 1, by omega, hb11, by go_num⟩
        case measure => (simp [intOf] <;> omega)
      · go_wp2_with fail
        refine (awake_any _).mono ?_
        rintro e w6 ⟨rfl, hb6⟩
        have hb7 := below_then (below_then hb8 hb) hb6
        go_wp2
        go_ret
        exact ⟨rfl, hb7⟩
end Go.Proofs.Ytbbmjmelbhdgeaa
