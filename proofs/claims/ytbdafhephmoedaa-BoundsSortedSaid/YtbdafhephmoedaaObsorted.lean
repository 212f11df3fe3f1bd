/- The statements about package bounds: BoundsSorted. Conditions: the program's bounds keep their contracts (ProgBd, ProgSt). -/
import Derived.Test.YtbdafhephmoedaaObawake
import Derived.Test.YtbdafhephmoedaaLndeck
import Derived.Deep.CutRange
namespace Go.Proofs.Ytbdafhephmoedaa
open Go.ChangeShapes Go.WideShapes Go.ChangeAt Go.RowKit
set_option linter.unusedVariables false
set_option linter.unusedSimpArgs false
set_option maxRecDepth 100000

theorem cnt_next {l : List En} {k : Nat} {z x : En} (h : l[k]? = some z) : cntL x (l.take (k + 1)) = cntL x (l.take k) + if z = x then 1 else 0 := by
  unfold cntL
  rw [List.take_add_one, h, List.filter_append, List.length_append]
  congr 1
  by_cases hz : z = x
  · subst hz; simp
  · simp [hz]
theorem cnt_le {l : List En} {k n : Nat} {x : En} (h : k ≤ n) : cntL x (l.take k) ≤ n := by
  unfold cntL
  have := List.length_filter_le (fun y => decide (y = x)) (l.take k)
  rw [List.length_take] at this
  omega
theorem eqL_two (z x : En) (w : World) : (Op.equalIn 10000 43 (.agg #[.string z.1, .int .u64 z.2.1, .int .u64 z.2.2]) (.agg #[.string x.1, .int .u64 x.2.1, .int .u64 x.2.2])).run Try.prog w = .ok (decide (z = x)) w := eqIn_line z.1 x.1 z.2.1 x.2.1 z.2.2 x.2.2 w
set_option maxHeartbeats 4000000 in
theorem boundsSorted_walk (HB : ProgBd) (HS : ProgSt) (A : Option Addr) (m d : Nat) (w : World) (hA : RdI w A m d) :
    Calls Try.prog 6 #[.slice A m d] w (Yes w) := by
  have hNd := new_any A m d w
  have hDk := Dk.new hA
  go_enter Try.func6, Try.ntmps6
  go_wp2_with fail
  refine hNd.mono ?_
  rintro e w2 ⟨rfl, rfl⟩
  go_wp2_with fail
  refine (lines_dk hDk).mono ?_
  rintro e w3 ⟨A3, n, c3, L, rfl, hn, hR, hnew, hF, hD3, hG3⟩
  have hb3 := hD3.low
  have hC := HS.sort hR (by omega)
  clear hNd hDk hnew hF hG3 hD3
  go_wp2_with fail
  refine hC.mono ?_
  rintro e w4 ⟨A4, c4, L', rfl, hM, hR4, hb4⟩
  have hR3 := hR.below hb4
  have hB := below_then hb3 hb4
  have hc3 := hR3.cap
  have hm3 := hR3.max
  have hc4 := hR4.cap
  have hm4 := hR4.max
  have hne : ((n : Int) != (n : Int)) = false := by simp
  have HBl := Lib.hid hB
  clear hC hR hb3 hb4 hB hA
  go_wp2
  go_loopw [21] (fun iv wr => ∃ i j : Nat, i ≤ n ∧ iv = .int .i64 (i : Int) ∧ wr = w4.drewN j) (fun iv _ => n - (intOf iv).toNat)
  case atStart => exact ⟨0, 0, Nat.zero_le _, rfl, rfl⟩
  case round =>
    obtain ⟨i, j, hi, rfl, rfl⟩ := hrel
    by_cases hlt : i < n
    · have hiI : (i : Int) < (n : Int) := by omega
      obtain ⟨b4, o4, x, rfl, hx, x0, x1, x2⟩ := hR4.atLn hlt
      go_upto_region 8 with fail
      go_cut [67] from 24 to 66 (fun v wx => v = .bool false ∧ ∃ j', wx = w4.drewN j')
      case first =>
        by_cases hi0 : 0 < i
        · have hd : decide (0 < i) = true := decide_eq_true hi0
          obtain ⟨h, hh⟩ : ∃ h, i - 1 = h := ⟨_, rfl⟩
          have hw1 : IntKind.i64.wrap ((i : Int) - 1) = (h : Int) := by rw [IntKind.wrap_i64]; omega
          have hhI : (h : Int) < (n : Int) := by omega
          obtain ⟨b5, o5, y, he, hy, y0, y1, y2⟩ := hR4.atLn (j := h) (by omega)
          injection he with he; injection he with q1 q2; subst q1 q2
          have hs := hM.srt.at_ hy hx (by omega)
          have h1 : ¬ x.2.2 > y.2.2 := fun h => by rw [lnB_iff.2 (.inl h)] at hs; cases hs
          have hd1 : decide (y.2.2 < x.2.2) = false := decide_eq_false h1
          have h2 : (x.2.2 == y.2.2) = false ∨ ((x.2.2 == y.2.2) = true ∧ Op.bytesLess x.1.toList y.1.toList = false) := by
            by_cases e : x.2.2 = y.2.2
            · refine .inr ⟨beq_iff_eq.2 e, ?_⟩
              cases hb : Op.bytesLess x.1.toList y.1.toList with
              | false => rfl
              | true => rw [lnB_iff.2 (.inr ⟨e, hb⟩)] at hs; cases hs
            · exact .inl (beq_eq_false_iff_ne.2 e)
          clear hs hx hy h1
          rcases h2 with h2 | ⟨h2, h3⟩
          · go_wp2
            go_quiet (fail)
            go_wp2
            go_meet
            exact ⟨rfl, _, by first | rfl | exact World.drewN_drewN _ _ _⟩
          · go_wp2
            go_quiet (fail)
            go_wp2
            go_meet
            exact ⟨rfl, _, by first | rfl | exact World.drewN_drewN _ _ _⟩
        · have hd : decide (0 < i) = false := decide_eq_false hi0
          go_wp2
          go_quiet (fail)
          go_wp2
          go_meet
          exact ⟨rfl, _, by first | rfl | exact World.drewN_drewN _ _ _⟩
      case rest =>
        obtain ⟨rfl, j2, hwc⟩ := hcut
        subst hwc
        clear x0 x1 x2
        go_wp2
        go_loopw [6, 7, 70] (fun av bv kv wr => ∃ k a b j : Nat, k ≤ n ∧ cntL x (L.take k) = a ∧ cntL x (L'.take k) = b ∧ av = .int .i64 (a : Int) ∧ bv = .int .i64 (b : Int) ∧ kv = .int .i64 (k : Int) ∧ wr = w4.drewN j) (fun _ _ kv _ => n - (intOf kv).toNat)
        case atStart => exact ⟨0, 0, 0, j2, Nat.zero_le _, rfl, rfl, rfl, rfl, rfl, rfl⟩
        case round =>
          obtain ⟨k, a, b, j3, hk, ha, hb, rfl, rfl, rfl, rfl⟩ := hrel
          by_cases hkn : k < n
          · have hkI : (k : Int) < (n : Int) := by omega
            obtain ⟨bz, oz, z, hAz, hz, z0, z1, z2⟩ := hR3.atLn hkn
            subst hAz
            obtain ⟨by_, oy, y, he, hy, y0, y1, y2⟩ := hR4.atLn hkn
            injection he with he; injection he with q1 q2; subst q1 q2
            obtain ⟨bx, ox, x', he, hx', x0, x1, x2⟩ := hR4.atLn hlt
            injection he with he; injection he with q1 q2; subst q1 q2
            rw [hx] at hx'; injection hx' with hx'; subst hx'
            have hca := cnt_next (x := x) hz
            have hcb := cnt_next (x := x) hy
            rw [ha] at hca
            rw [hb] at hcb
            have hla := cnt_le (l := L) (x := x) hk
            have hlb := cnt_le (l := L') (x := x) hk
            have hwa : IntKind.i64.wrap ((a : Int) + 1) = ((a + 1 : Nat) : Int) := by rw [IntKind.wrap_i64]; omega
            have hwb : IntKind.i64.wrap ((b : Int) + 1) = ((b + 1 : Nat) : Int) := by rw [IntKind.wrap_i64]; omega
            have Q1 := eqL_two z x
            have Q2 := eqL_two y x
            have HX := Lib.hid hx
            clear hx ha hb hz hy
            by_cases e1 : z = x
            · rw [decide_eq_true e1] at Q1
              rw [if_pos e1] at hca
              by_cases e2 : y = x
              · rw [decide_eq_true e2] at Q2
                rw [if_pos e2] at hcb
                have HA := Lib.hid hca
                have HBn := Lib.hid hcb
                clear hca hcb e1 e2
                go_wp2
                go_quiet (fail)
                go_wp2
                go_quiet (fail)
                go_wp2
                go_roundw
                case rel => exact ⟨k + 1, _, _, _, by omega, HA.out, HBn.out, by go_num, by go_num, by go_num, by first | rfl | exact World.drewN_drewN _ _ _⟩
                case measure => (simp [intOf] <;> omega)
              · rw [decide_eq_false e2] at Q2
                rw [if_neg e2, Nat.add_zero] at hcb
                have HA := Lib.hid hca
                have HBn := Lib.hid hcb
                clear hca hcb e1 e2
                go_wp2
                go_quiet (fail)
                go_wp2
                go_quiet (fail)
                go_wp2
                go_roundw
                case rel => exact ⟨k + 1, _, _, _, by omega, HA.out, HBn.out, by go_num, by go_num, by go_num, by first | rfl | exact World.drewN_drewN _ _ _⟩
                case measure => (simp [intOf] <;> omega)
            · rw [decide_eq_false e1] at Q1
              rw [if_neg e1, Nat.add_zero] at hca
              by_cases e2 : y = x
              · rw [decide_eq_true e2] at Q2
                rw [if_pos e2] at hcb
                have HA := Lib.hid hca
                have HBn := Lib.hid hcb
                clear hca hcb e1 e2
                go_wp2
                go_quiet (fail)
                go_wp2
                go_quiet (fail)
                go_wp2
                go_roundw
                case rel => exact ⟨k + 1, _, _, _, by omega, HA.out, HBn.out, by go_num, by go_num, by go_num, by first | rfl | exact World.drewN_drewN _ _ _⟩
                case measure => (simp [intOf] <;> omega)
              · rw [decide_eq_false e2] at Q2
                rw [if_neg e2, Nat.add_zero] at hcb
                have HA := Lib.hid hca
                have HBn := Lib.hid hcb
                clear hca hcb e1 e2
                go_wp2
                go_quiet (fail)
                go_wp2
                go_quiet (fail)
                go_wp2
                go_roundw
                case rel => exact ⟨k + 1, _, _, _, by omega, HA.out, HBn.out, by go_num, by go_num, by go_num, by first | rfl | exact World.drewN_drewN _ _ _⟩
                case measure => (simp [intOf] <;> omega)
          · have hkI : ¬ (k : Int) < (n : Int) := by omega
            have e1 : L.take k = L := List.take_of_length_le (by rw [hR3.len]; omega)
            have e2 : L'.take k = L' := List.take_of_length_le (by rw [hR4.len]; omega)
            rw [e1] at ha
            rw [e2, hM.sm.cnt x, ha] at hb
            subst hb
            have hne2 : ((a : Int) != (a : Int)) = false := by simp
            clear ha e1 e2
            go_wp2
            go_roundw
            case rel => exact ⟨i + 1, _, by omega, by go_num, rfl⟩
            case measure => (simp [intOf] <;> omega)
    · have hiI : ¬ (i : Int) < (n : Int) := by omega
      go_wp2_with fail
      refine (bawake_any HB HS _).mono ?_
      rintro e w9 ⟨rfl, b9⟩
      have hE := Lib.hid (below_then (below_drewN HBl.out j) b9)
      clear b9
      go_wp2
      go_ret
      exact ⟨rfl, hE.out⟩
end Go.Proofs.Ytbdafhephmoedaa
