/- Contracts of varint.Append, varint.Size and of their specified results: each returns what the plain function gives in memory of its own. Conditions: the slice reads as bytes, the number fits 64 bits, the whole is at most 2^47 bytes. -/
import Derived.Test.YtfihaonpifoekaaBytes
import Derived.Test.YtfihaonpifoekaaVmath
import Derived.Lib.VarintBits
namespace Go.Proofs.Ytfihaonpifoekaa
open Go.ChangeShapes Go.WideShapes Go.ChangeAt Go.RowKit
set_option linter.unusedVariables false
set_option maxRecDepth 100000

/-- A slice of bytes comes back that reads l; what was there is as it was. -/
def OutB (w : World) (l : List Int) (e : Ending) (w' : World) : Prop :=
  ∃ A n c, e = .returned (.slice A n c) ∧ Rd w' A n c l ∧ Below w.heap.size w w'

theorem ret_int {k : IntKind} {a b : Int} (h : a = b) : Ending.returned (.int k a) = .returned (.int k b) := by rw [h]

/-- What a loop of Size keeps. -/
def SizeK (n m s : Nat) : Prop := s + (enc m).length = (enc n).length + 1 ∧ s ≤ 10
theorem SizeK.next {n m s : Nat} (h : SizeK n m s) (hm : ¬ m < 128) (hn : n ≤ 18446744073709551615) : SizeK n (m / 128) (s + 1) := by
  have h1 := enc_ten hn
  have h2 := enc_pos (m / 128)
  have h3 := h.1
  rw [enc_ge hm, List.length_cons] at h3
  exact ⟨by omega, by omega⟩

theorem take_full (l : List Int) : l = l ++ [] := (List.append_nil l).symm
theorem OutB.of_own {w w' : World} {v : Value} {l : List Int} (h : Own w' w.heap.size v l) (hb : Below w.heap.size w w') : OutB w l (.returned v) w' := by
  obtain ⟨A, n, c, rfl, hr⟩ := h.form
  exact ⟨A, n, c, rfl, hr, hb⟩
/-- A row of bytes of the call's own comes back; what was there is as it was. -/
def OutO (w : World) (l : List Int) (e : Ending) (w' : World) : Prop :=
  ∃ v, e = .returned v ∧ Own w' w.heap.size v l ∧ Below w.heap.size w w'
theorem OutO.out {w w' : World} {l : List Int} {e : Ending} (h : OutO w l e w') : OutB w l e w' := by
  obtain ⟨v, rfl, h1, h2⟩ := h
  exact OutB.of_own h1 h2
theorem low7 (m : Nat) (hm : m ≤ 18446744073709551615) : bits .and .u64 (m : Int) 127 = (m : Int) % 128 :=
  bits_mask .u64 64 (by decide) wraps_u64 7 (by decide) _ (by omega) (by omega)

theorem group_byte (m : Nat) (hm : m ≤ 18446744073709551615) : bits .or .u8 (bits .and .u64 (m : Int) 127 % 256) 128 = ((m % 128 : Nat) : Int) + 128 := by
  rw [low7 m hm, u8_or128_right _ (by omega) (by omega)]
  omega
/-- What a loop of Append keeps. -/
def AppK (l : List Int) (n m : Nat) (r : List Int) : Prop := r ++ enc m = l ++ enc n
theorem AppK.len {l : List Int} {n m : Nat} {r : List Int} (h : AppK l n m r) (hn : n ≤ 18446744073709551615) : r.length + 1 ≤ l.length + 10 := by
  have h1 := congrArg List.length h
  have h2 := enc_pos m
  have h3 := enc_ten hn
  rw [List.length_append, List.length_append] at h1
  omega
theorem AppK.last {l : List Int} {n m : Nat} {r : List Int} (h : AppK l n m r) (hm : m < 128) : r ++ [(m : Int)] = l ++ enc n := by
  unfold AppK at h; rw [enc_lt hm] at h; exact h
theorem AppK.next {l : List Int} {n m : Nat} {r : List Int} (h : AppK l n m r) (hm : ¬ m < 128) : AppK l n (m / 128) (r ++ [((m % 128 : Nat) : Int) + 128]) := by
  unfold AppK at h ⊢; rw [enc_ge hm] at h; rw [List.append_assoc]; exact h

set_option maxHeartbeats 1000000 in
theorem rappend_own (A : Option Addr) (k c : Nat) (l : List Int) (x : Int) (w : World) (h : Rd w A k c l) (hx : 0 ≤ x ∧ x ≤ 18446744073709551615) (hfit : k + 10 ≤ 140737488355328) :
    Calls Try.prog 16 #[.slice A k c, .int .u64 x] w (OutO w (l ++ enc x.toNat)) := by
  obtain ⟨hx0, hx1⟩ := hx
  obtain ⟨n, rfl⟩ := Int.eq_ofNat_of_zero_le hx0
  rw [Int.toNat_natCast]
  have hn : n ≤ 18446744073709551615 := by omega
  have hten := enc_ten hn
  have hcap := h.cap
  have hmax := h.max
  have hlen := Lib.hid h.len
  go_enter Try.func16, Try.ntmps16
  go_wp2_with (at_builtin; refine wpList_app rfl _ _ rfl w.heap.size _ [] rfl A k c l rfl (Own.empty w) (h.alloc _) ?_ ?_ ?_)
  · simp; omega
  · simp
  · intro v2 w2 hO2 hg2 _
    have hb2 := Below.app ((Below.refl _ _).alloc (Nat.le_refl _) _) (Own.empty w) hg2 (by simp) (Nat.le_refl _)
    have hs2 := hb2.size
    clear hg2
    go_wp2
    go_loopw [1, 5] (fun x v wr => ∃ (m : Nat) (r : List Int), m ≤ 18446744073709551615 ∧ x = .int .u64 m ∧ Own wr w.heap.size v r ∧ Below w.heap.size w wr ∧ AppK l n m r) (fun x _ _ => (intOf x).toNat)
    case atStart => exact ⟨n, l, hn, rfl, hO2, hb2, rfl⟩
    case round =>
      obtain ⟨m, r, hm, rfl, hO, hb, hr⟩ := hrel
      have hs := hb.size
      have hrl := hr.len hn
      rw [hlen.out] at hrl
      by_cases hlt : m < 128
      · have ht : decide ((128 : Int) ≤ (m : Int)) = false := decide_eq_false (by omega)
        go_wp2_with (at_builtin; refine wpList_app rfl _ _ rfl w.heap.size _ r rfl _ 1 1 _ rfl (hO.alloc _) (Rd.one _ _ _ ?_) ?_ ?_ ?_)
        · omega
        · omega
        · simp; omega
        · intro v3 w3 hO3 hg3 _
          have hb3 := Below.app (hb.alloc hs _) (hO.alloc _) hg3 (by simp; omega) (Nat.le_refl _)
          rw [hr.last hlt] at hO3
          clear hg3 hO
          go_wp2
          go_ret
          exact ⟨_, rfl, hO3, hb3⟩
      · have ht : decide ((128 : Int) ≤ (m : Int)) = true := decide_eq_true (by omega)
        have hge : 128 ≤ m := by omega
        go_wp2_with (at_builtin; refine wpList_app rfl _ _ rfl w.heap.size _ r rfl _ 1 1 _ rfl (hO.alloc _) (Rd.one _ _ _ ?_) ?_ ?_ ?_)
        · omega
        · omega
        · simp; omega
        · intro v3 w3 hO3 hg3 _
          have hb3 := Below.app (hb.alloc hs _) (hO.alloc _) hg3 (by simp; omega) (Nat.le_refl _)
          clear hg3 hO
          go_wp2
          go_roundw
          case rel => exact ⟨m / 128, _, by omega, by go_num, hO3, hb3, hr.next hlt⟩
          case measure => (simp [intOf] <;> omega)

theorem rappend_any (A : Option Addr) (k c : Nat) (l : List Int) (x : Int) (w : World) (h : Rd w A k c l) (hx : 0 ≤ x ∧ x ≤ 18446744073709551615) (hfit : k + 10 ≤ 140737488355328) :
    Calls Try.prog 16 #[.slice A k c, .int .u64 x] w (OutB w (l ++ enc x.toNat)) := (rappend_own A k c l x w h hx hfit).mono fun _ _ => OutO.out
end Go.Proofs.Ytfihaonpifoekaa
