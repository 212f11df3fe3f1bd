/- Contract of the specified result of reading a number: it returns what the plain functions give and leaves the world alone. Conditions: the slice reads as bytes. -/
import Derived.Test.YtfihaonpifoekaaVread
namespace Go.Proofs.Ytfihaonpifoekaa
open Go.ChangeShapes Go.WideShapes Go.ChangeAt Go.RowKit
set_option linter.unusedVariables false
set_option maxRecDepth 100000

theorem val_back {r : List Int} {j : Nat} {z : Int} (hz : r[j]? = some z) : val (r.drop j) = z % 128 + 128 * val (r.drop (j + 1)) := by
  have hj : j < r.length := (List.getElem?_eq_some_iff.1 hz).1
  rw [List.drop_eq_getElem_cons hj, val]
  rw [List.getElem?_eq_getElem hj] at hz
  rw [Option.some.inj hz]
theorem val_drop_le (r : List Int) (j : Nat) : val (r.drop j) ≤ val r := by
  have h := val_split r j
  have h1 := val_nonneg (r.take j)
  have h2 := val_nonneg (r.drop j)
  have h3 : (1 : Int) ≤ 128 ^ (r.take j).length := Int.pow_pos (by omega)
  have h4 : 1 * val (r.drop j) ≤ 128 ^ (r.take j).length * val (r.drop j) := Int.mul_le_mul_of_nonneg_right h3 h2
  omega
theorem lead_stop {l : List Int} {k : Nat} (h : All128 l k) (hk : k = l.length ∨ k = 10) (h10 : k ≤ 10) (hl : k ≤ l.length) : lead l = k := lead_eq h hl h10 fun y h1 hy => by
    have := (List.getElem?_eq_some_iff.1 hy).1
    omega
theorem proper_no {k : Nat} {z : Int} (h : properB (k + 1) z = false) : (k = 9 ∧ 1 < z) ∨ (0 < k ∧ z = 0) := by
  by_cases h1 : k = 9 ∧ 1 < z
  · exact .inl h1
  · right
    simp [properB] at h
    have := h (by omega)
    omega
theorem proper_yes {k : Nat} {z : Int} (h : properB (k + 1) z = true) : ¬ (k = 9 ∧ 1 < z) ∧ ¬ (0 < k ∧ z = 0) := by
  simp [properB] at h
  omega

set_option maxHeartbeats 1000000 in
theorem rread_any (A : Option Addr) (n c : Nat) (l : List Int) (w : World) (h : Rd w A n c l) :
    Calls Try.prog 26 #[.slice A n c] w fun e w' => e = .returned (.tuple #[.int .u64 (rdN l), .int .i64 (rdK l), .int .i64 (rdE l)]) ∧ w = w' := by
  have hcap := h.cap
  have hmax := h.max
  have hlen := Lib.hid h.len
  have hbytes := Lib.hid h.bytes
  go_enter Try.func26, Try.ntmps26
  go_wp2
  go_loop [5] (fun i => ∃ k : Nat, k ≤ n ∧ k ≤ 10 ∧ i = .int .i64 k ∧ All128 l k) (fun i => n - (intOf i).toNat)
  case atStart => exact ⟨0, Nat.zero_le _, by omega, rfl, All128.zero l⟩
  case round =>
    obtain ⟨k, hk, hk10, rfl, hq⟩ := hrel
    by_cases ht : k = 10
    · subst ht
      obtain ⟨_, e1, e2, e3⟩ := rd_ten (lead_stop hq (.inr rfl) (by omega) (by rw [hlen.out]; exact hk))
      have E1 := Lib.hid e1
      have E2 := Lib.hid e2
      have E3 := Lib.hid e3
      clear e1 e2 e3
      by_cases hlt : 10 < n
      · go_wp2
        go_ret3
        exact ⟨ret3 E1.out.symm E2.out.symm E3.out.symm, rfl⟩
      · go_wp2
        go_ret3
        exact ⟨ret3 E1.out.symm E2.out.symm E3.out.symm, rfl⟩
    · have hk9 : k < 10 := by omega
      have ht' : ((k : Int) == 10) = false := by simp; omega
      by_cases hlt : k < n
      · obtain ⟨b, o, z, rfl, hz, h0, h1, hb, hc⟩ := h.at_ hlt
        by_cases hs : 128 ≤ z
        · have HZ := Lib.hid hz
          clear hz
          go_wp2
          go_round
          case rel => exact ⟨k + 1, by omega, by omega, by go_num, hq.succ HZ.out (by omega)⟩
          case measure => (simp [intOf] <;> omega)
        · have hlead := lead_at hq (by omega) hz (by omega)
          have hnl : lead l ≠ l.length := by rw [hlead, hlen.out]; omega
          have hn10 : lead l ≠ 10 := by rw [hlead]; omega
          have hne : ((k : Int) == (n : Int)) = false := by simp; omega
          rw [← hlead] at hz
          cases hpb : properB (lead l + 1) z with
          | false =>
            obtain ⟨_, e1, e2, e3⟩ := rd_form hn10 hnl hz hpb
            rw [hlead] at hpb
            have E1 := Lib.hid e1
            have E2 := Lib.hid e2
            have E3 := Lib.hid e3
            have hcs := proper_no hpb
            clear e1 e2 e3 hlead hnl hn10 hz hpb
            by_cases h9 : k = 9
            · subst h9
              by_cases hz1 : 1 < z
              · clear hcs
                go_wp2
                go_ret3
                exact ⟨ret3 E1.out.symm E2.out.symm E3.out.symm, rfl⟩
              · have hz0 : z = 0 := by omega
                subst hz0
                clear hcs
                go_wp2
                go_ret3
                exact ⟨ret3 E1.out.symm E2.out.symm E3.out.symm, rfl⟩
            · have hk0 : 0 < k := by omega
              have hz0 : z = 0 := by omega
              have h9' : ((k : Int) == 9) = false := by simp; omega
              subst hz0
              clear hcs h9
              go_wp2
              go_ret3
              exact ⟨ret3 E1.out.symm E2.out.symm E3.out.symm, rfl⟩
          | true =>
            obtain ⟨_, e1, e2, e3⟩ := rd_good hn10 hnl hz hpb
            rw [hlead] at hpb hz
            have hv := Lib.hid (val_fits hbytes.out (by omega) hz hpb)
            have hcs := proper_yes hpb
            rw [hlead] at e1 e2
            have E1 := Lib.hid e1
            have E2 := Lib.hid e2
            have E3 := Lib.hid e3
            have HZ := Lib.hid hz
            clear e1 e2 e3 hlead hnl hn10 hz hpb
            by_cases h9 : k = 9
            · subst h9
              have hz1 : z = 1 := by omega
              subst hz1
              clear hcs
              go_wp2
              go_loop [2, 6] (fun s i => ∃ j : Nat, j ≤ 10 ∧ i = .int .i64 ((j : Int) - 1) ∧ s = .int .u64 (val ((l.take (10)).drop j))) (fun _ i => (intOf i + 1).toNat)
              case atStart => exact ⟨10, Nat.le_refl _, by go_num, by rw [List.drop_eq_nil_of_le (by rw [List.length_take]; omega)]; rfl⟩
              case round =>
                obtain ⟨j, hj, rfl, rfl⟩ := hrel
                cases j with
                | zero =>
                  go_wp2
                  go_ret3
                  exact ⟨ret3 (by rw [E1.out] <;> rfl) (by rw [E2.out] <;> rfl) E3.out.symm, rfl⟩
                | succ i =>
                  obtain ⟨b', o', y, hA, hy, hy0, hy1, hb', hc'⟩ := h.at_ (show i < n by omega)
                  simp only [Option.some.injEq, Addr.mk.injEq, and_true] at hA
                  obtain ⟨rfl, rfl⟩ := hA
                  have hyt : (l.take (10))[i]? = some y := by rw [List.getElem?_take, if_pos (by omega)]; exact hy
                  have hvb := val_back hyt
                  have hvn := val_nonneg ((l.take (10)).drop (i + 1))
                  have hvl := Int.le_trans (val_drop_le (l.take (10)) i) hv.out
                  have hV : val ((l.take (10)).drop (i + 1)) * 128 + y % 128 ≤ 18446744073709551615 := by omega
                  have HVB := Lib.hid hvb
                  have ei : ((i + 1 : Nat) : Int) - 1 = i := by omega
                  rw [ei]
                  clear hvb hy hyt ei hvl
                  go_wp2
                  go_round
                  case rel => exact ⟨i, by omega, by go_num, congrArg _ (by rw [HVB.out]; omega)⟩
                  case measure => (simp [intOf] <;> omega)
            · have h9' : ((k : Int) == 9) = false := by simp; omega
              by_cases hk0 : k = 0
              · subst hk0
                have hc' : w.cell? ⟨b, o, none⟩ = some (.int .u8 z) := hc
                clear hcs hc hne
                go_wp2
                go_loop [2, 6] (fun s i => ∃ j : Nat, j ≤ 1 ∧ i = .int .i64 ((j : Int) - 1) ∧ s = .int .u64 (val ((l.take (1)).drop j))) (fun _ i => (intOf i + 1).toNat)
                case atStart => exact ⟨1, Nat.le_refl _, by go_num, by rw [List.drop_eq_nil_of_le (by rw [List.length_take]; omega)]; rfl⟩
                case round =>
                  obtain ⟨j, hj, rfl, rfl⟩ := hrel
                  cases j with
                  | zero =>
                    go_wp2
                    go_ret3
                    exact ⟨ret3 (by rw [E1.out] <;> rfl) (by rw [E2.out] <;> rfl) E3.out.symm, rfl⟩
                  | succ i =>
                    obtain ⟨b', o', y, hA, hy, hy0, hy1, hb', hc'⟩ := h.at_ (show i < n by omega)
                    simp only [Option.some.injEq, Addr.mk.injEq, and_true] at hA
                    obtain ⟨rfl, rfl⟩ := hA
                    have hyt : (l.take (1))[i]? = some y := by rw [List.getElem?_take, if_pos (by omega)]; exact hy
                    have hvb := val_back hyt
                    have hvn := val_nonneg ((l.take (1)).drop (i + 1))
                    have hvl := Int.le_trans (val_drop_le (l.take (1)) i) hv.out
                    have hV : val ((l.take (1)).drop (i + 1)) * 128 + y % 128 ≤ 18446744073709551615 := by omega
                    have HVB := Lib.hid hvb
                    have ei : ((i + 1 : Nat) : Int) - 1 = i := by omega
                    rw [ei]
                    clear hvb hy hyt ei hvl
                    go_wp2
                    go_round
                    case rel => exact ⟨i, by omega, by go_num, congrArg _ (by rw [HVB.out]; omega)⟩
                    case measure => (simp [intOf] <;> omega)
              · have hz0 : ((z : Int) == 0) = false := by simp; omega
                have hkp : 0 < k := by omega
                clear hcs
                go_wp2
                go_loop [2, 6] (fun s i => ∃ j : Nat, j ≤ k + 1 ∧ i = .int .i64 ((j : Int) - 1) ∧ s = .int .u64 (val ((l.take (k + 1)).drop j))) (fun _ i => (intOf i + 1).toNat)
                case atStart => exact ⟨k + 1, Nat.le_refl _, by go_num, by rw [List.drop_eq_nil_of_le (by rw [List.length_take]; omega)]; rfl⟩
                case round =>
                  obtain ⟨j, hj, rfl, rfl⟩ := hrel
                  cases j with
                  | zero =>
                    go_wp2
                    go_ret3
                    exact ⟨ret3 (by rw [E1.out] <;> rfl) (by rw [E2.out] <;> rfl) E3.out.symm, rfl⟩
                  | succ i =>
                    obtain ⟨b', o', y, hA, hy, hy0, hy1, hb', hc'⟩ := h.at_ (show i < n by omega)
                    simp only [Option.some.injEq, Addr.mk.injEq, and_true] at hA
                    obtain ⟨rfl, rfl⟩ := hA
                    have hyt : (l.take (k + 1))[i]? = some y := by rw [List.getElem?_take, if_pos (by omega)]; exact hy
                    have hvb := val_back hyt
                    have hvn := val_nonneg ((l.take (k + 1)).drop (i + 1))
                    have hvl := Int.le_trans (val_drop_le (l.take (k + 1)) i) hv.out
                    have hV : val ((l.take (k + 1)).drop (i + 1)) * 128 + y % 128 ≤ 18446744073709551615 := by omega
                    have HVB := Lib.hid hvb
                    have ei : ((i + 1 : Nat) : Int) - 1 = i := by omega
                    rw [ei]
                    clear hvb hy hyt ei hvl
                    go_wp2
                    go_round
                    case rel => exact ⟨i, by omega, by go_num, congrArg _ (by rw [HVB.out]; omega)⟩
                    case measure => (simp [intOf] <;> omega)
      · obtain rfl : k = n := by omega
        have hld := lead_stop hq (.inl hlen.out.symm) (by omega) (by rw [hlen.out]; omega)
        obtain ⟨_, e1, e2, e3⟩ := rd_short (by rw [hld, hlen.out]) (by rw [hld]; exact ht)
        have E1 := Lib.hid e1
        have E2 := Lib.hid e2
        have E3 := Lib.hid e3
        clear e1 e2 e3 hld
        go_wp2
        go_ret3
        exact ⟨ret3 E1.out.symm E2.out.symm E3.out.symm, rfl⟩
end Go.Proofs.Ytfihaonpifoekaa
