/- The statements about package pool: PoolSteps. Conditions: the program's arena keeps its contracts (ProgA). -/
import Derived.Test.YtenchaifnfgijaaNtwo
import Derived.Test.YtenchaifnfgijaaQref5
import Derived.Deep.CutBlock
import Derived.Deep.CutRange
namespace Go.Proofs.Ytenchaifnfgijaa
open Go.ChangeShapes Go.WideShapes Go.ChangeAt Go.RowKit
set_option linter.unusedVariables false
set_option linter.unusedSimpArgs false
set_option maxRecDepth 100000

abbrev c40 : ByteArray := ⟨#[48, 49, 50, 51, 52, 53, 54, 55, 56, 57, 48, 49, 50, 51, 52, 53, 54, 55, 56, 57, 48, 49, 50, 51, 52, 53, 54, 55, 56, 57, 48, 49, 50, 51, 52, 53, 54, 55, 56, 57]⟩
theorem c40_sz (K : Nat) : (c40.extract 0 K).size ≤ 40 := by
  have : (c40.extract 0 K).size = min K 40 - 0 := ByteArray.size_extract
  omega
theorem c40_facts {K : Nat} (h : K ≤ 31) : (0 ≤ (K : Int) ∧ (K : Int) ≤ (c40.size : Int)) ∧ ((K : Int) ≤ 40 ∧ K ≤ 40) := by
  have e : (c40.size : Int) = 40 := rfl
  rw [e]; omega
set_option maxHeartbeats 8000000 in
theorem poolSteps_walk {PA : Rep} (HP : ProgA PA) (A : Option Addr) (m d : Nat) (B : Option Addr) (p q0 : Nat) (raw : ByteArray) (id : Int) (w : World) (hA : RdI w A m d) (hB : RdI w B p q0) (hraw : raw.size ≤ 9223372036854775807) (i0 : -9223372036854775808 ≤ id) (i1 : id ≤ 9223372036854775807) :
    Calls Try.prog 4 #[.slice A m d, .slice B p q0, .string raw, .int .i64 id] w (Yes w) := by
  have hcapB := hB.1
  have hmaxB := hB.2.1
  simp only [maxLen] at hmaxB
  by_cases hbig : 300 < raw.size
  · have hbi : (300 : Int) < (raw.size : Int) := by omega
    go_enter Try.func4, Try.ntmps4
    go_wp2_with fail
    refine (qawake_any HP _).mono ?_
    rintro e WI ⟨rfl, hbI⟩
    go_wp2
    go_ret
    exact ⟨rfl, hbI⟩
  have hbi : ¬ (300 : Int) < (raw.size : Int) := by omega
  go_enter Try.func4, Try.ntmps4
  go_wp2_with fail
  refine (new_any _ _ _ _).mono ?_
  rintro e w1 ⟨rfl, rfl⟩
  have D1 := DkS.new hA
  generalize hW1 : w.alloc (.cells #[.slice A m d, .int .i64 0] 66) = W1 at *
  generalize w.heap.size = gd at *
  clear hA hW1
  go_wp2_with fail
  refine (qtwo_any HP D1).mono ?_
  rintro e W2 ⟨ga, g, gb, gq, col2, qn, xn, rfl, T2, E2⟩
  clear D1
  go_wp2
  go_loopw [15] (fun iv wr => ∃ (i : Nat) (col : Col) (q : PSt) (x y : ASt), i ≤ p ∧ i ≤ 50 ∧ iv = .int .i64 i ∧ PairQ PA w gd A m d g ga gq gb col q q x y wr ∧ SameQ q x y (2 * i)) (fun iv _ => p - (intOf iv).toNat)
  case atStart => exact ⟨0, col2, qn, xn, xn, Nat.zero_le _, Nat.zero_le _, rfl, T2, E2⟩
  case round =>
    clear T2 E2
    obtain ⟨i, col, q, x, y, hip, hi50, rfl, T, E⟩ := hrel
    by_cases hend : i < p ∧ i < 50
    · have hpi : (i : Int) < (p : Int) := by omega
      have h5i : (i : Int) < 50 := by omega
      obtain ⟨bB, oB, s, rfl, cS, hs0, hs1⟩ := (hB.below T.ds.since.below).2.2 i hend.1
      obtain ⟨K, hKm, hK⟩ := mask_any (s / 8) 15 (by omega)
      have hK' : bits .and .i64 (s / 8) 15 = (K : Int) := hK
      obtain ⟨M, hMm, hM⟩ := mask_any (s / 128) 15 (by omega)
      have hM' : bits .and .i64 (s / 128) 15 = (M : Int) := hM
      obtain ⟨L, hLm, hL⟩ := mask_any (s / 2048) 31 (by omega)
      have hL' : bits .and .i64 (s / 2048) 31 = (L : Int) := hL
      obtain ⟨V, hVm, hV⟩ := mask_any s 3 (by omega)
      have hV' : bits .and .i64 s 3 = (V : Int) := hV
      clear hK hM hL hV
      have hTT := Lib.hid T
      have hEE := Lib.hid E
      clear T E hB
      go_wp2_with fail
      refine (short_dk hTT.out.ds.dk).mono ?_
      rintro e W2 ⟨t, ht, rfl, h2, g2⟩
      have T2 := Lib.hid (hTT.out.deck HP h2 g2)
      clear h2 g2 hTT cS
      have hM0 : M = 0 ∨ M = 1 ∨ M = 2 ∨ 3 ≤ M := by omega
      go_upto_block 2 with fail
      go_cut [17, 18] from 47 to 171 (fun vk vn wx => ∃ (key : ByteArray) (n : Int), key.size ≤ 400 ∧ I64 n ∧ vk = .string key ∧ vn = .int .i64 n ∧ wx = W2)
      case first =>
        have hK64 : I64 (K : Int) := by simp only [I64]; omega
        have hi64 : I64 id := ⟨i0, i1⟩
        rcases hM0 with rfl | rfl | rfl | hM3
        · go_wp2_with fail
          go_meet
          exact ⟨raw, id, by omega, hi64, rfl, rfl, rfl⟩
        · go_wp2_with fail
          go_meet
          exact ⟨⟨#[]⟩, K, by decide, hK64, rfl, rfl, rfl⟩
        · obtain ⟨⟨f1, f2⟩, f3, f4⟩ := c40_facts hLm
          have f5 := c40_sz L
          have f6 : ¬ 9223372036854775807 < t.size + (c40.extract 0 L).size := by omega
          go_wp2_with fail
          go_meet
          exact ⟨t ++ c40.extract 0 L, K, by rw [ba_append_size]; omega, hK64, rfl, rfl, rfl⟩
        · have g0 : ((M : Int) == 0) = false := by rw [beq_eq_false_iff_ne]; omega
          have g1 : ((M : Int) == 1) = false := by rw [beq_eq_false_iff_ne]; omega
          have g2 : ((M : Int) == 2) = false := by rw [beq_eq_false_iff_ne]; omega
          go_wp2_with fail
          go_meet
          exact ⟨t, K, by omega, hK64, rfl, rfl, rfl⟩
      case rest =>
        clear hM0 hM' hK' hL' hMm hKm hLm
        obtain ⟨key, n, hk, hn, rfl, rfl, rfl⟩ := hcut
        have hV4 : V = 0 ∨ V = 1 ∨ V = 2 ∨ V = 3 := by omega
        go_upto_block 3 with fail
        go_cut [19, 20, 21, 22, 23, 24, 25, 26] from 47 to 171 (fun va vb vc vd ve vf vg vh wx => ∃ (col' : Col) (q' : PSt) (x' y' : ASt), PairQ PA w gd A m d g ga gq gb col' q' q' x' y' wx ∧ SameQ q' x' y' (2 * i + 2))
        case first =>
          have hG := HP.good T2.out.pa
          obtain ⟨t1, t2, t3⟩ := hEE.out.t
          have b1 : x.t ≤ 100000000 := by omega
          have b1' : x.t ≤ 1000000000 := by omega
          have b2 : y.t ≤ 1000000000 := by omega
          have b3 : q.t ≤ 1000000000 := by omega
          have hk1 : key.size ≤ maxLen := by simp only [maxLen]; omega
          have hk2 : key.size ≤ 9223372036854775807 := by omega
          rcases hV4 with rfl | rfl | rfl | rfl
          rotate_left 2
          · go_wp2_with fail
            refine (pqRelease HP T2.out.pq T2.out.pa hEE.out.lnk ap12 T2.out.tidy b1 b3 n hn).mono ?_
            rintro e w3 ⟨rfl, hd3⟩
            obtain ⟨col3, T3⟩ := T2.out.did1 HP hd3
            go_wp2_with fail
            refine (rqRelease T3.rq T3.ra ap34 T3.tidy b2 b3 n hn).mono ?_
            rintro e w4 ⟨rfl, hd4⟩
            obtain ⟨col4, T4⟩ := T3.did2 HP hd4
            have E4 := hEE.out.release hG n
            clear T3 hd3 hd4
            go_wp2_with fail
            go_meet
            exact ⟨_, _, _, _, T4, E4⟩
          · go_wp2_with fail
            refine (pqText HP T2.out.pq T2.out.pa hEE.out.lnk ap12 T2.out.tidy b1' b3 n hn).mono ?_
            rintro e w3 ⟨rfl, hd3⟩
            obtain ⟨col3, T3⟩ := T2.out.did1 HP hd3
            go_wp2_with fail
            refine (rqText T3.rq T3.tidy n hn).mono ?_
            rintro e w4 ⟨rfl, hb4⟩
            have T4 := T3.below HP hb4
            have E4 := hEE.out.text hG n
            have hne : ((q.text n).1.toList != (q.text n).1.toList) = false := by simp
            clear T3 hd3 hb4
            go_wp2_with fail
            go_meet
            exact ⟨_, _, _, _, T4, E4⟩
          all_goals
            go_wp2_with fail
            refine (pqIntern HP T2.out.pq T2.out.pa hEE.out.lnk ap12 T2.out.tidy b1 b3 key hk1).mono ?_
            rintro e w3 ⟨rfl, hd3⟩
            obtain ⟨col3, T3⟩ := T2.out.did1 HP hd3
            go_wp2_with fail
            refine (rqIntern T3.rq T3.ra ap34 T3.tidy b2 b3 key hk2).mono ?_
            rintro e w4 ⟨rfl, hd4⟩
            obtain ⟨col4, T4⟩ := T3.did2 HP hd4
            have E4 := hEE.out.intern hG key
            rw [← intern_alike hEE.out.al key] at T4 ⊢
            clear T3 hd3 hd4
            go_wp2_with fail
            go_meet
            exact ⟨_, _, _, _, T4, E4⟩
        case rest =>
          clear hEE T2 hV4 hV' hVm
          obtain ⟨col5, q5, x5, y5, T5, E5⟩ := hcut
          obtain ⟨t1, t2, t3⟩ := E5.t
          have b1 : x5.t ≤ 1000000000 := by omega
          have b2 : y5.t ≤ 1000000000 := by omega
          have b3 : q5.t ≤ 1000000000 := by omega
          have hk1 : key.size ≤ maxLen := by simp only [maxLen]; omega
          go_wp2_with fail
          refine (pqFind T5.pq T5.tidy key hk1 b3).mono ?_
          rintro e W6 ⟨rfl, hb6⟩
          have T6 := T5.below HP hb6
          clear T5 hb6
          go_wp2_with fail
          refine (rqFind T6.rq T6.tidy key).mono ?_
          rintro e W7 ⟨rfl, hb7⟩
          have T7 := T6.below HP hb7
          clear T6 hb7
          go_wp2_with fail
          refine (pqLen_same T7.pq).mono ?_
          rintro e W8 ⟨rfl, rfl⟩
          go_wp2_with fail
          refine (rqLen T7.rq T7.tidy).mono ?_
          rintro e W9 ⟨rfl, hb9⟩
          have T9 := T7.below HP hb9
          clear T7 hb9
          go_wp2_with fail
          refine (HP.usage T9.pa T9.tidy b1).mono ?_
          rintro e W10 ⟨A10, c10, rfl, u10, hb10⟩
          have T10 := T9.below HP hb10
          clear T9 hb10
          go_wp2_with fail
          refine (arUsage T10.ra T10.tidy b2).mono ?_
          rintro e W11 ⟨A11, c11, rfl, u11, hb11⟩
          have T11 := T10.below HP hb11
          have v10 := u10.below hb11
          rw [← E5.al.l, ← E5.al.live] at u11
          rw [← E5.al.bytes, ← E5.al.l, ← E5.al.fa]
          clear T10 hb11 u10
          go_wp2_with fail
          refine (sameUsage_yes _ _ _ _ _ _ _ _ W11 v10 u11).mono ?_
          rintro e W12 ⟨rfl, hb12⟩
          have T12 := T11.below HP hb12
          have E12 : SameQ q5 x5 y5 (2 * (i + 1)) := ⟨E5.lnk, E5.al, by omega⟩
          clear T11 hb12 v10 u11 E5 t1 t2 t3
          go_wp2
          go_roundw
          case rel => exact ⟨i + 1, _, _, _, _, by omega, by omega, by go_num, T12, E12⟩
          case measure => (simp [intOf] <;> omega)
    · have hE := Lib.hid T.ds.since
      clear T E hB
      by_cases hp : i < p
      · have hpi : (i : Int) < (p : Int) := by omega
        have h5i : ¬ (i : Int) < 50 := by omega
        go_wp2_with fail
        refine (qawake_any HP _).mono ?_
        rintro e WI ⟨rfl, hbI⟩
        have hb := (hE.out.below' hbI).below
        clear hE hbI
        go_wp2
        go_ret
        exact ⟨rfl, hb⟩
      · have hpi : ¬ (i : Int) < (p : Int) := by omega
        go_wp2_with fail
        refine (qawake_any HP _).mono ?_
        rintro e WI ⟨rfl, hbI⟩
        have hb := (hE.out.below' hbI).below
        clear hE hbI
        go_wp2
        go_ret
        exact ⟨rfl, hb⟩
end Go.Proofs.Ytenchaifnfgijaa
