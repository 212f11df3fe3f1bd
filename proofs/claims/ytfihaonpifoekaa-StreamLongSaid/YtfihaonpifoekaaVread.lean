/- Contracts of varint.Read and its parts, and of the specified result: each returns what the plain functions give and leaves the world alone. Conditions: the slice reads as bytes. -/
import Derived.Test.YtfihaonpifoekaaBytes
import Derived.Test.YtfihaonpifoekaaBase
import Derived.Test.YtfihaonpifoekaaVmath
import Derived.Lib.VarintBits
namespace Go.Proofs.Ytfihaonpifoekaa
open Go.ChangeShapes Go.WideShapes Go.ChangeAt Go.RowKit
set_option linter.unusedVariables false
set_option maxRecDepth 100000

def spanK (l : List Int) : Int := if lead l = 10 ∨ lead l = l.length then 0 else (lead l : Int) + 1

def All128 (l : List Int) (k : Nat) : Prop := ∀ j z, j < k → l[j]? = some z → 128 ≤ z
theorem All128.zero (l : List Int) : All128 l 0 := fun j z hj => absurd hj (by omega)
theorem All128.succ {l : List Int} {k : Nat} {z : Int} (h : All128 l k) (hz : l[k]? = some z) (h1 : 128 ≤ z) : All128 l (k + 1) := fun j y hj hy => by
  by_cases e : j = k
  · subst e
    rw [hz] at hy
    obtain rfl := Option.some.inj hy
    exact h1
  · exact h j y (by omega) hy
theorem lead_at {l : List Int} {k : Nat} {z : Int} (h : All128 l k) (h10 : k < 10) (hz : l[k]? = some z) (h1 : z < 128) : lead l = k := by
  have hl : k < l.length := (List.getElem?_eq_some_iff.1 hz).1
  exact lead_eq h (by omega) (by omega) fun y _ hy => by
    rw [hz] at hy
    obtain rfl := Option.some.inj hy
    exact h1
theorem span_at {l : List Int} {k : Nat} {z : Int} (h : All128 l k) (h10 : k < 10) (hz : l[k]? = some z) (h1 : z < 128) : (k : Int) + 1 = spanK l := by
  have hl : k < l.length := (List.getElem?_eq_some_iff.1 hz).1
  have e := lead_at h h10 hz h1
  unfold spanK
  rw [if_neg (by omega), e]
theorem span_end {l : List Int} {k : Nat} (h : All128 l k) (hk : k = l.length ∨ k = 10) (h10 : k ≤ 10) (hl : k ≤ l.length) : 0 = spanK l := by
  have e : lead l = k := lead_eq h hl h10 fun y h1 hy => by
    have := (List.getElem?_eq_some_iff.1 hy).1
    omega
  unfold spanK
  rw [if_pos (by omega)]

set_option maxHeartbeats 400000 in
theorem span_any (A : Option Addr) (n c : Nat) (l : List Int) (w : World) (h : Rd w A n c l) :
    Calls Try.prog 36 #[.slice A n c] w fun e w' => e = .returned (.int .i64 (spanK l)) ∧ w = w' := by
  have hcap := h.cap
  have hmax := h.max
  have hlen := Lib.hid h.len
  by_cases h10 : n ≤ 10
  · go_enter Try.func36, Try.ntmps36
    go_wp2
    go_loop [11] (fun i => ∃ k : Nat, k ≤ n ∧ i = .int .i64 k ∧ All128 l k) (fun i => n - (intOf i).toNat)
    case atStart => exact ⟨0, Nat.zero_le _, rfl, All128.zero l⟩
    case round =>
      obtain ⟨k, hk, rfl, hq⟩ := hrel
      by_cases hlt : k < n
      · obtain ⟨b, o, z, rfl, hz, h0, h1, hb, hc⟩ := h.at_ hlt
        have HZ := Lib.hid hz
        clear hz
        by_cases hs : z < 128
        · go_wp2
          go_ret
          exact ⟨ret_i64 (span_at hq (by omega) HZ.out hs), rfl⟩
        · go_wp2
          go_round
          case rel => exact ⟨k + 1, by omega, by go_num, hq.succ HZ.out (by omega)⟩
          case measure => simp [intOf]; omega
      · go_wp2
        go_ret
        exact ⟨ret_i64 (span_end hq (.inl (by have := hlen.out; omega)) (by omega) (by have := hlen.out; omega)), rfl⟩
  · have hm : max (10 : Int) 0 = 10 := rfl
    have h10' : 10 < n := by omega
    clear h10
    go_enter Try.func36, Try.ntmps36
    go_wp2
    go_loop [11] (fun i => ∃ k : Nat, k ≤ 10 ∧ i = .int .i64 k ∧ All128 l k) (fun i => n - (intOf i).toNat)
    case atStart => exact ⟨0, Nat.zero_le _, rfl, All128.zero l⟩
    case round =>
      obtain ⟨k, hk, rfl, hq⟩ := hrel
      by_cases hlt : k < 10
      · obtain ⟨b, o, z, rfl, hz, h0, h1, hb, hc⟩ := h.at_ (show k < n by omega)
        have HZ := Lib.hid hz
        clear hz
        by_cases hs : z < 128
        · go_wp2
          go_ret
          exact ⟨ret_i64 (span_at hq (by omega) HZ.out hs), rfl⟩
        · go_wp2
          go_round
          case rel => exact ⟨k + 1, by omega, by go_num, hq.succ HZ.out (by omega)⟩
          case measure => simp [intOf]; omega
      · go_wp2
        go_ret
        exact ⟨ret_i64 (span_end hq (.inr (by omega)) (by omega) (by have := hlen.out; omega)), rfl⟩

/-- Whether bytes, z the last of n, are in range and no more than needed. -/
def properB (n : Nat) (z : Int) : Bool := !(decide (n = 10) && decide (1 < z)) && (decide (z ≠ 0) || decide (n = 1))
theorem proper_a {n : Nat} {z : Int} (h : n = 10) (h1 : 1 < z) : properB n z = false := by simp [properB, h, h1]
theorem proper_b {n : Nat} {z : Int} (h : ¬ (n = 10 ∧ 1 < z)) (h1 : z ≠ 0) : properB n z = true := by
  unfold properB
  by_cases hn : n = 10
  · have : ¬ 1 < z := fun x => h ⟨hn, x⟩
    simp [hn, this, h1]
  · simp [hn, h1]
theorem proper_c {n : Nat} (h1 : n ≠ 1) : properB n 0 = false := by simp [properB, h1]
theorem proper_d : properB 1 0 = true := by decide

set_option maxHeartbeats 400000 in
theorem proper_any (A : Option Addr) (n c : Nat) (l : List Int) (z : Int) (w : World) (h : Rd w A n c l) (h1 : 1 ≤ n) (hz : l[n - 1]? = some z) :
    Calls Try.prog 37 #[.slice A n c] w fun e w' => e = .returned (.bool (properB n z)) ∧ w = w' := by
  have hcap := h.cap
  have hmax := h.max
  obtain ⟨b, o, y, rfl, hy, h0, h255, hb, hc⟩ := h.at_ (k := n - 1) (by omega)
  rw [hz] at hy
  obtain rfl := Option.some.inj hy
  clear hy hz
  by_cases h10 : n = 10
  · subst h10
    by_cases hl : 1 < z
    · have P := Lib.hid (proper_a (n := 10) rfl hl)
      go_enter Try.func37, Try.ntmps37
      go_wp2
      go_ret
      exact ⟨ret_bool P.out.symm, rfl⟩
    · by_cases hz0 : z = 0
      · subst hz0
        have P := Lib.hid (proper_c (n := 10) (by omega))
        go_enter Try.func37, Try.ntmps37
        go_wp2
        go_ret
        exact ⟨ret_bool P.out.symm, rfl⟩
      · have P := Lib.hid (proper_b (n := 10) (z := z) (by omega) hz0)
        have hz1 : z = 1 := by omega
        subst hz1
        go_enter Try.func37, Try.ntmps37
        go_wp2
        go_ret
        exact ⟨ret_bool P.out.symm, rfl⟩
  · have hn : ((n : Int) == 10) = false := by simp; omega
    by_cases hz0 : z = 0
    · subst hz0
      by_cases hn1 : n = 1
      · subst hn1
        have P := Lib.hid proper_d
        have hc' : w.cell? ⟨b, o, none⟩ = some (.int .u8 0) := hc
        clear hc
        go_enter Try.func37, Try.ntmps37
        go_wp2
        go_ret
        exact ⟨ret_bool P.out.symm, rfl⟩
      · have P := Lib.hid (proper_c hn1)
        have hn' : ((n : Int) == 1) = false := by simp; omega
        go_enter Try.func37, Try.ntmps37
        go_wp2
        go_ret
        exact ⟨ret_bool P.out.symm, rfl⟩
    · have P := Lib.hid (proper_b (n := n) (z := z) (by omega) hz0)
      have hzz : (z != 0) = true := by simpa using hz0
      go_enter Try.func37, Try.ntmps37
      go_wp2
      go_ret
      exact ⟨ret_bool P.out.symm, rfl⟩

theorem take_next {l : List Int} {k : Nat} {z : Int} (hz : l[k]? = some z) : l.take (k + 1) = l.take k ++ [z] := by
  rw [List.take_add_one, hz]; rfl
theorem val_take_le (l : List Int) (k : Nat) : val (l.take k) ≤ val l := by
  rw [val_split l k]
  have h1 := val_nonneg (l.drop k)
  have h2 : (0 : Int) ≤ 128 ^ (l.take k).length := Int.le_of_lt (Int.pow_pos (by omega))
  have := Int.mul_nonneg h2 h1
  omega
theorem pow_group (k : Nat) : (2 : Int) ^ (7 * k) = 128 ^ k := by
  have h : (2 : Int) ^ 7 = 128 := by decide
  rw [Int.pow_mul, h]
theorem or_group (l : List Int) (k n : Nat) (z : Int) (hk : k < n) (h10 : n ≤ 10) (hl : l.length = n) (hz : l[k]? = some z) (h0 : 0 ≤ z) (h1 : z ≤ 255) (hv : val l ≤ 18446744073709551615) :
    bits .or .u64 (val (l.take k)) (IntKind.u64.wrap (IntKind.u64.wrap (bits .and .u8 z 127) * 2 ^ (7 * k))) = val (l.take (k + 1)) := by
  have hs := val_snoc (l.take k) z
  have hle := val_take_le l (k + 1)
  have hkl : (l.take k).length = k := by rw [List.length_take]; omega
  have hlt := val_lt (l.take k)
  have hnn := val_nonneg (l.take k)
  have hp : (0 : Int) < 128 ^ k := Int.pow_pos (by omega)
  rw [hkl] at hs hlt
  rw [take_next hz, hs] at hle ⊢
  have hm : 0 ≤ z % 128 * 128 ^ k := Int.mul_nonneg (by omega) (Int.le_of_lt hp)
  rw [u8_and127 z h0 (by omega), wraps_u64 (z % 128) (by omega) (by omega), pow_group, wraps_u64 _ hm (by omega)]
  have hk64 : (128 : Int) ^ k ≤ 128 ^ 9 := by
    have : (128 : Nat) ^ k ≤ 128 ^ 9 := Nat.pow_le_pow_right (by omega) (by omega)
    exact_mod_cast this
  exact bits_join_low .u64 64 (by decide) wraps_u64 (7 * k) _ _ hnn (by rw [pow_group]; exact hlt) (by omega) hm (by rw [pow_group]; exact Int.mul_emod_left _ _) (by omega)
theorem ret_u64 {a b : Int} (h : a = b) : Ending.returned (.int .u64 a) = .returned (.int .u64 b) := by rw [h]

set_option maxHeartbeats 400000 in
theorem value_any (A : Option Addr) (n c : Nat) (l : List Int) (w : World) (h : Rd w A n c l) (h10 : n ≤ 10) (hv : val l ≤ 18446744073709551615) :
    Calls Try.prog 38 #[.slice A n c] w fun e w' => e = .returned (.int .u64 (val l)) ∧ w = w' := by
  have hcap := h.cap
  have hmax := h.max
  have hlen := Lib.hid h.len
  have HV := Lib.hid hv
  clear hv
  go_enter Try.func38, Try.ntmps38
  go_wp2
  go_loop [3, 8] (fun s i => ∃ k : Nat, k ≤ n ∧ i = .int .i64 k ∧ s = .int .u64 (val (l.take k))) (fun _ i => n - (intOf i).toNat)
  case atStart => exact ⟨0, Nat.zero_le _, rfl, rfl⟩
  case round =>
    obtain ⟨k, hk, rfl, rfl⟩ := hrel
    by_cases hlt : k < n
    · obtain ⟨b, o, z, rfl, hz, h0, h1, hb, hc⟩ := h.at_ hlt
      have HZ := Lib.hid hz
      clear hz
      go_wp2
      go_round
      case rel => exact ⟨k + 1, by omega, by go_num, congrArg _ (or_group l k n z hlt h10 hlen.out HZ.out h0 h1 HV.out)⟩
      case measure => simp [intOf]; omega
    · have e : n = k := by omega
      subst e
      go_wp2
      go_ret
      exact ⟨ret_u64 (by rw [List.take_of_length_le (by rw [hlen.out]; omega)]), rfl⟩

theorem ret3 {a a' b b' c c' : Int} (h1 : a = a') (h2 : b = b') (h3 : c = c') :
    Ending.returned (.tuple #[.int .u64 a, .int .i64 b, .int .i64 c]) = .returned (.tuple #[.int .u64 a', .int .i64 b', .int .i64 c']) := by rw [h1, h2, h3]

/-- The cases of reading. -/
theorem rd_ten {l : List Int} (h : lead l = 10) : spanK l = 0 ∧ rdN l = 0 ∧ rdK l = 0 ∧ rdE l = 3 := by
  refine ⟨if_pos (.inl h), if_pos (.inl h), if_pos (.inl h), if_pos h⟩
theorem rd_short {l : List Int} (h : lead l = l.length) (h10 : lead l ≠ 10) : spanK l = 0 ∧ rdN l = 0 ∧ rdK l = 0 ∧ rdE l = 2 := by
  refine ⟨if_pos (.inr h), if_pos (.inr (.inl h)), if_pos (.inr (.inl h)), ?_⟩
  unfold rdE; rw [if_neg h10, if_pos h]
theorem rd_form {l : List Int} {z : Int} (h10 : lead l ≠ 10) (hl : lead l ≠ l.length) (hz : l[lead l]? = some z) (hp : properB (lead l + 1) z = false) :
    spanK l = (lead l : Int) + 1 ∧ rdN l = 0 ∧ rdK l = 0 ∧ rdE l = 3 := by
  have hd : l.getD (lead l) 0 = z := by rw [List.getD_eq_getElem?_getD, hz]; rfl
  have hc : (lead l = 9 ∧ 1 < z) ∨ (0 < lead l ∧ z = 0) := by
    simp [properB] at hp
    by_cases h1 : lead l = 9 ∧ 1 < z
    · exact .inl h1
    · right
      have := hp (by omega)
      omega
  refine ⟨if_neg (by rintro (h | h) <;> contradiction), if_pos (.inr (.inr (by rw [hd]; exact hc))), if_pos (.inr (.inr (by rw [hd]; exact hc))), ?_⟩
  unfold rdE
  rw [if_neg h10, if_neg hl, hd, if_pos hc]
theorem rd_good {l : List Int} {z : Int} (h10 : lead l ≠ 10) (hl : lead l ≠ l.length) (hz : l[lead l]? = some z) (hp : properB (lead l + 1) z = true) :
    spanK l = (lead l : Int) + 1 ∧ rdN l = val (l.take (lead l + 1)) ∧ rdK l = (lead l : Int) + 1 ∧ rdE l = 0 := by
  have hd : l.getD (lead l) 0 = z := by rw [List.getD_eq_getElem?_getD, hz]; rfl
  have hc : ¬ ((lead l = 9 ∧ 1 < z) ∨ (0 < lead l ∧ z = 0)) := by
    simp [properB] at hp
    rintro (⟨h1, h2⟩ | ⟨h1, h2⟩)
    · have := hp.1; omega
    · rcases hp.2 with h | h
      · exact h h2
      · omega
  have hc' : ¬ (lead l = 10 ∨ lead l = l.length ∨ (lead l = 9 ∧ 1 < l.getD (lead l) 0) ∨ (0 < lead l ∧ l.getD (lead l) 0 = 0)) := by
    rw [hd]
    rintro (h | h | h)
    · exact h10 h
    · exact hl h
    · exact hc h
  refine ⟨if_neg (by rintro (h | h) <;> contradiction), if_neg hc', if_neg hc', ?_⟩
  unfold rdE
  rw [if_neg h10, if_neg hl, hd, if_neg hc]
theorem val_fits {l : List Int} (hb : ∀ z ∈ l, 0 ≤ z ∧ z ≤ 255) {z : Int} {k : Nat} (hk : k ≤ 9) (hz : l[k]? = some z) (hp : properB (k + 1) z = true) : val (l.take (k + 1)) ≤ 18446744073709551615 := by
  have hzb := hb z (List.mem_of_getElem? hz)
  have hkl : k < l.length := (List.getElem?_eq_some_iff.1 hz).1
  have hs := val_snoc (l.take k) z
  have hv := val_lt (l.take k)
  have hn := val_nonneg (l.take k)
  have hlen : (l.take k).length = k := by rw [List.length_take]; omega
  rw [hlen] at hs hv
  rw [take_next hz, hs]
  by_cases h9 : k = 9
  · subst h9
    have : z ≤ 1 := by
      simp [properB] at hp
      exact hp.1
    omega
  · have h8 : (128 : Int) ^ k ≤ 128 ^ 8 := by
      have : (128 : Nat) ^ k ≤ 128 ^ 8 := Nat.pow_le_pow_right (by omega) (by omega)
      exact_mod_cast this
    have : z % 128 * 128 ^ k ≤ 127 * 128 ^ k := Int.mul_le_mul_of_nonneg_right (by omega) (Int.le_of_lt (Int.pow_pos (by omega)))
    omega

set_option maxHeartbeats 400000 in
theorem read_any (A : Option Addr) (n c : Nat) (l : List Int) (w : World) (h : Rd w A n c l) :
    Calls Try.prog 31 #[.slice A n c] w fun e w' => e = .returned (.tuple #[.int .u64 (rdN l), .int .i64 (rdK l), .int .i64 (rdE l)]) ∧ w = w' := by
  have hcap := h.cap
  have hmax := h.max
  have hlen := h.len
  have hle := lead_le l
  rw [hlen] at hle
  by_cases h10 : lead l = 10
  · obtain ⟨hs, e1, e2, e3⟩ := rd_ten h10
    have E1 := Lib.hid e1
    have E2 := Lib.hid e2
    have E3 := Lib.hid e3
    have HS := Lib.hid hs
    have hn : ¬ n < 10 := by omega
    clear hs e1 e2 e3 hlen h10 hle
    go_enter Try.func31, Try.ntmps31
    go_wp2_with fail
    refine (span_any _ _ _ _ _ h).mono ?_
    rintro e w' ⟨rfl, rfl⟩
    rw [HS.out]
    go_wp2
    go_ret3
    exact ⟨ret3 E1.out.symm E2.out.symm E3.out.symm, rfl⟩
  · by_cases hl : lead l = l.length
    · obtain ⟨hs, e1, e2, e3⟩ := rd_short hl h10
      have E1 := Lib.hid e1
      have E2 := Lib.hid e2
      have E3 := Lib.hid e3
      have HS := Lib.hid hs
      have hn : n < 10 := by omega
      clear hs e1 e2 e3 hlen h10 hle hl
      go_enter Try.func31, Try.ntmps31
      go_wp2_with fail
      refine (span_any _ _ _ _ _ h).mono ?_
      rintro e w' ⟨rfl, rfl⟩
      rw [HS.out]
      go_wp2
      go_ret3
      exact ⟨ret3 E1.out.symm E2.out.symm E3.out.symm, rfl⟩
    · have hlt : lead l < l.length := by omega
      obtain ⟨z, hz⟩ : ∃ z, l[lead l]? = some z := ⟨_, List.getElem?_eq_getElem hlt⟩
      obtain ⟨k, hk⟩ : ∃ k, k = lead l := ⟨_, rfl⟩
      have hp := h.take (k := k + 1) (by omega)
      have hzt : (l.take (k + 1))[k + 1 - 1]? = some z := by
        rw [Nat.add_sub_cancel, List.getElem?_take, if_pos (by omega), hk, hz]
      have hk9 : k ≤ 9 := by omega
      have hkn : k < n := by omega
      cases hpb : properB (lead l + 1) z with
      | false =>
        obtain ⟨hs, e1, e2, e3⟩ := rd_form h10 hl hz hpb
        have E1 := Lib.hid e1
        have E2 := Lib.hid e2
        have E3 := Lib.hid e3
        rw [← hk] at hs hpb
        have HS := Lib.hid hs
        have HP := Lib.hid hpb
        have HZ := Lib.hid hzt
        clear hs e1 e2 e3 hlen h10 hle hl hk hz hlt hpb hzt
        go_enter Try.func31, Try.ntmps31
        go_wp2_with fail
        refine (span_any _ _ _ _ _ h).mono ?_
        rintro e w' ⟨rfl, rfl⟩
        rw [HS.out]
        go_wp2_with fail
        refine (proper_any _ _ _ _ z _ hp (by omega) HZ.out).mono ?_
        rintro e w' ⟨rfl, rfl⟩
        rw [HP.out]
        go_wp2
        go_ret3
        exact ⟨ret3 E1.out.symm E2.out.symm E3.out.symm, rfl⟩
      | true =>
        obtain ⟨hs, e1, e2, e3⟩ := rd_good h10 hl hz hpb
        have E1 := Lib.hid e1
        have E2 := Lib.hid e2
        have E3 := Lib.hid e3
        rw [← hk] at hs hpb hz
        have hv := Lib.hid (val_fits h.bytes hk9 hz hpb)
        have HS := Lib.hid hs
        have HP := Lib.hid hpb
        have HZ := Lib.hid hzt
        have HK := Lib.hid hk
        clear hs e1 e2 e3 hlen h10 hle hl hk hz hlt hpb hzt
        go_enter Try.func31, Try.ntmps31
        go_wp2_with fail
        refine (span_any _ _ _ _ _ h).mono ?_
        rintro e w' ⟨rfl, rfl⟩
        rw [HS.out]
        go_wp2_with fail
        refine (proper_any _ _ _ _ z _ hp (by omega) HZ.out).mono ?_
        rintro e w' ⟨rfl, rfl⟩
        rw [HP.out]
        go_wp2_with fail
        refine (value_any _ _ _ _ _ hp (by omega) hv.out).mono ?_
        rintro e w' ⟨rfl, rfl⟩
        go_wp2
        go_ret3
        exact ⟨ret3 (by rw [E1.out, HK.out]) (by rw [E2.out, HK.out]) E3.out.symm, rfl⟩
end Go.Proofs.Ytfihaonpifoekaa
