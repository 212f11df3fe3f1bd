/- The walk of the law VarintBack: it returns true, whatever comes in. Conditions: the arguments read as data within the row's reach. -/
import Derived.Test.YtellnmoopecfdaaVlaws
namespace Go.Proofs.Ytellnmoopecfdaa
open Go.ChangeShapes Go.WideShapes Go.ChangeAt Go.RowKit
set_option linter.unusedVariables false

theorem back_facts (y : Int) (l : List Int) (n1 : Nat) (hy : 0 ≤ y ∧ y ≤ 18446744073709551615) (hl : ∀ z ∈ l, 0 ≤ z ∧ z ≤ 255) (hn : (enc y.toNat).length = n1) :
    rdN (enc y.toNat ++ l) = y ∧ rdK (enc y.toNat ++ l) = (n1 : Int) ∧ rdE (enc y.toNat ++ l) = 0 ∧ 1 ≤ n1 ∧ n1 ≤ 10 := by
  obtain ⟨h1, h2, h3⟩ := rd_back y.toNat l (by omega) (fun z hz => (hl z hz).1)
  have h4 := enc_pos y.toNat
  have h5 := enc_ten (n := y.toNat) (by omega)
  exact ⟨by rw [h1]; omega, by rw [h2, hn], h3, by omega, by omega⟩

set_option maxHeartbeats 1000000 in
theorem varintBack_walk (x s : Int) (A : Option Addr) (k c : Nat) (w : World) (hx : 0 ≤ x ∧ x ≤ 18446744073709551615) (hs : 0 ≤ s ∧ s ≤ 255) (h : Arg w A k c) :
    Calls Try.prog 5 #[.int .u64 x, .int .u8 s, .slice A k c] w (Yes w) := by
  obtain ⟨hcap, hmx, l, h⟩ := h
  obtain ⟨hx0, hx1⟩ := hx
  obtain ⟨hs0, hs1⟩ := hs
  have hM := shr_bd x (s % 64).toNat hx0 hx1
  go_enter Try.func5, Try.ntmps5
  go_wp2_with fail
  generalize x / 2 ^ (s % 64).toNat = y at *
  refine (append_any _ _ _ [] _ _ (Rd.nil _ _ _ (by simp [maxLen])) hM (by omega)).mono ?_
  rintro e w1 ⟨A1, n1, c1, rfl, hr1, hb1⟩
  rw [List.nil_append] at hr1
  have hl := h.below hb1
  obtain ⟨f1, f2, f3, f4, f5⟩ := back_facts y l n1 hM h.bytes hr1.len
  have F1 := Lib.hid f1
  have F2 := Lib.hid f2
  have F3 := Lib.hid f3
  have F6 := Lib.hid hr1.len
  clear f1 f2 f3
  go_wp2_with (at_builtin; refine wpList_app rfl (.tmp 18) (.tmp 19) rfl w1.heap.size _ [] rfl A1 n1 c1 _ rfl (Own.empty w1) (hr1.alloc _) ?_ ?_ ?_)
  · simp; omega
  · simp
  · intro v2 w2 hO2 hg2 _
    have hb2 := Below.app ((Below.refl _ _).alloc (Nat.le_refl _) _) (Own.empty w1) hg2 (by simp) (Nat.le_refl _)
    have hB2 := hb1.trans (hb2.mono hb1.size)
    have hl2 := hl.below hb2
    have hs2 := hb2.size
    clear hg2 hl hr1
    go_wp2_with (at_builtin; refine wpList_app rfl (.tmp 20) (.tmp 21) rfl w1.heap.size v2 _ rfl A k c l rfl hO2 hl2 ?_ ?_ ?_)
    · simp [F6.out]; omega
    · exact hs2
    · intro v3 w3 hO3 hg3 _
      have hb3 := Below.app hb2 hO2 hg3 hs2 (Nat.le_refl _)
      have hB3 := hb1.trans (hb3.mono hb1.size)
      obtain ⟨A3, n3, c3, rfl, hr3⟩ := hO3.form
      clear hg3 hO2 hO3 hl2 hb2 hb3 hB2 hb1
      go_wp2_with fail
      refine (read_any _ _ _ _ _ hr3).mono ?_
      rintro e w' ⟨rfl, rfl⟩
      rw [F1.out, F2.out, F3.out]
      go_wp2_with fail
      refine (size_any _ _ hM).mono ?_
      rintro e w' ⟨rfl, rfl⟩
      rw [F6.out]
      go_wp2_with fail
      refine (awake_any _).mono ?_
      rintro e w4 ⟨rfl, hb4⟩
      have hB4 := hB3.trans (hb4.mono hB3.size)
      go_wp2
      go_ret
      exact ⟨rfl, hB4⟩
end Go.Proofs.Ytellnmoopecfdaa
