/- Layer 2: for every input each of the statements about package varint returns true and leaves its arguments as they were. -/
import Derived.Test.YtellnmoopecfdaaVrefread
import Derived.Test.YtellnmoopecfdaaVappend
import Derived.BigQuiet
import Derived.Deep.QuietTactic
import Derived.SizedLaws
namespace Go.Proofs.Ytellnmoopecfdaa
open Go.ChangeShapes Go.WideShapes Go.ChangeAt Go.RowKit
set_option linter.unusedVariables false

/-- 'true' comes back, and nothing has happened but draws. -/
def YesDrawn (w : World) (e : Ending) (w' : World) : Prop := e = .returned (.bool true) ∧ ∃ j, w' = w.drewN j

set_option maxHeartbeats 400000 in
theorem same_yes (A A' : Option Addr) (n c c' : Nat) (l : List Int) (w : World) (h : Rd w A n c l) (h' : Rd w A' n c' l) :
    Calls Try.prog 8 #[.slice A n c, .slice A' n c'] w (YesDrawn w) := by
  have hcap := h.cap
  have hmax := h.max
  have hlen := Lib.hid h.len
  have hnn : ((n : Int) != (n : Int)) = false := by simp
  go_enter Try.func8, Try.ntmps8
  go_wp2
  go_loopw [13] (fun i wr => ∃ k j : Nat, k ≤ n ∧ i = .int .i64 k ∧ wr = w.drewN j) (fun i _ => n - (intOf i).toNat)
  case atStart => exact ⟨0, 0, Nat.zero_le _, rfl, rfl⟩
  case round =>
    obtain ⟨k, j, hk, rfl, rfl⟩ := hrel
    by_cases hlt : k < n
    · obtain ⟨b, o, z, rfl, hz, h0, h1, hb, hc⟩ := h.at_ hlt
      obtain ⟨b', o', z', rfl, hz', h0', h1', hb', hc'⟩ := h'.at_ hlt
      rw [hz] at hz'
      obtain rfl := Option.some.inj hz'
      clear hz hz'
      go_wp2
      go_quiet (fail)
      go_wp2
      go_roundw
      case rel => exact ⟨k + 1, _, by omega, by go_num, rfl⟩
      case measure => simp [intOf]; omega
    · go_wp2
      go_ret
      exact ⟨rfl, _, rfl⟩

theorem lit_cell (l : List Int) (t : TypeId) (w : World) (j : Nat) (z : Int) (h : l[j]? = some z) :
    (w.alloc (.cells (l.map (Value.int .u8)).toArray t)).cell? ⟨w.heap.size, 0 + j, none⟩ = some (.int .u8 z) := by
  rw [Nat.zero_add]
  exact (cell_of_row _ w.heap.size j (l.map (Value.int .u8)).toArray t (0, 0) (heap_alloc_new w _)).trans (by simp [h])
theorem Rd.lit (l : List Int) (w : World) (hb : ∀ z ∈ l, 0 ≤ z ∧ z ≤ 255) (hm : l.length ≤ maxLen) :
    Rd (w.alloc (.cells (l.map (Value.int .u8)).toArray 5)) (some ⟨w.heap.size, 0, none⟩) l.length l.length l :=
  ⟨rfl, Nat.le_refl _, hm, hb, fun j z hz => ⟨_, _, rfl, lit_cell l _ w j z hz⟩⟩
theorem Rd.two (w : World) : Rd (w.alloc (.cells #[.int .u8 128, .int .u8 1] 5)) (some ⟨w.heap.size, 0, none⟩) 2 2 [128, 1] :=
  Rd.lit [128, 1] w (by simp) (by simp [maxLen])
theorem rd_two : rdN [128, 1] = 128 ∧ rdK [128, 1] = 2 ∧ rdE [128, 1] = 0 := by decide
theorem enc_two : enc (128 : Int).toNat = [128, 1] := by
  rw [show (128 : Int).toNat = 128 from rfl, enc_ge (by omega), enc_lt (by omega)]; rfl

/-- 'true' comes back, and what was there is as it was. -/
def Yes (w : World) (e : Ending) (w' : World) : Prop := e = .returned (.bool true) ∧ Below w.heap.size w w'

theorem below_drewN {B : Nat} {a w : World} (h : Below B a w) (j : Nat) : Below B a (w.drewN j) := ⟨h.os, h.tape, h.output, h.size, h.block⟩

set_option maxHeartbeats 400000 in
theorem awake_any (w : World) :
    Calls Try.prog 7 #[] w (Yes w) := by
  have H1 := Lib.hid rd_two.1
  have H2 := Lib.hid rd_two.2.1
  have H3 := Lib.hid rd_two.2.2
  go_enter Try.func7, Try.ntmps7
  go_wp2_with fail
  refine (read_any _ _ _ _ _ (Rd.two w)).mono ?_
  rintro e w' ⟨rfl, rfl⟩
  rw [H1.out, H2.out, H3.out]
  go_wp2_with fail
  refine (append_any _ _ _ [] _ _ (Rd.nil _ _ _ (by simp [maxLen])) (by omega) (by omega)).mono ?_
  rintro e w1 ⟨A, n, c, rfl, hr, hb⟩
  rw [List.nil_append, enc_two] at hr
  obtain rfl : n = 2 := hr.len.symm
  have hr' : Rd (w1.alloc (.cells #[.int .u8 128, .int .u8 1] 5)) A 2 c [128, 1] := hr.alloc _
  go_wp2_with fail
  refine (same_yes _ _ _ _ _ _ _ hr' (Rd.two w1)).mono ?_
  rintro e w2 ⟨rfl, j, rfl⟩
  have hb1 : Below w.heap.size w w1 := ((Below.refl _ w).alloc (Nat.le_refl _) _).trans (hb.mono (by simp))
  have hb2 : Below w.heap.size w ((w1.alloc (.cells #[.int .u8 128, .int .u8 1] 5)).drewN j) := below_drewN (hb1.alloc hb1.size _) j
  clear hb hr hr' hb1
  go_wp2
  go_ret
  exact ⟨rfl, hb2⟩

theorem shr_bd (x : Int) (j : Nat) (hx0 : 0 ≤ x) (hx1 : x ≤ 18446744073709551615) : 0 ≤ x / 2 ^ j ∧ x / 2 ^ j ≤ 18446744073709551615 :=
  ⟨Int.ediv_nonneg hx0 (Int.le_of_lt (Int.pow_pos (by omega))), Int.le_trans (Int.ediv_le_self _ hx0) hx1⟩

/-- What a law is told of a slice of bytes that came in. -/
def Arg (w : World) (A : Option Addr) (n c : Nat) : Prop := n ≤ c ∧ c ≤ 140737488351232 ∧ ∃ l, Rd w A n c l

set_option maxHeartbeats 1000000 in
theorem varintAppend_walk (A : Option Addr) (k c : Nat) (x s : Int) (w : World) (h : Arg w A k c) (hx : 0 ≤ x ∧ x ≤ 18446744073709551615) (hs : 0 ≤ s ∧ s ≤ 255) :
    Calls Try.prog 3 #[.slice A k c, .int .u64 x, .int .u8 s] w (Yes w) := by
  obtain ⟨hcap, hmx, l, h⟩ := h
  obtain ⟨hx0, hx1⟩ := hx
  obtain ⟨hs0, hs1⟩ := hs
  by_cases hk : 100 < k
  · go_enter Try.func3, Try.ntmps3
    go_wp2_with fail
    refine (awake_any _).mono ?_
    rintro e w' ⟨rfl, hb⟩
    go_wp2
    go_ret
    exact ⟨rfl, hb⟩
  · have hk' : k ≤ 100 := by omega
    go_enter Try.func3, Try.ntmps3
    go_wp2_with fail
    refine (append_any _ _ _ _ _ _ h ⟨hx0, hx1⟩ (by omega)).mono ?_
    rintro e w1 ⟨A1, n1, c1, rfl, hr1, hb1⟩
    go_wp2_with fail
    refine (rappend_any _ _ _ _ _ _ (h.below hb1) ⟨hx0, hx1⟩ (by omega)).mono ?_
    rintro e w2 ⟨A2, n2, c2, rfl, hr2, hb2⟩
    obtain rfl : n1 = n2 := hr1.len.symm.trans hr2.len
    have hB2 := hb1.trans (hb2.mono hb1.size)
    have hR1 := hr1.below hb2
    clear hr1 hb2 hb1
    go_wp2_with fail
    refine (same_yes _ _ _ _ _ _ _ hR1 hr2).mono ?_
    rintro e w3 ⟨rfl, j3, rfl⟩
    have hB3 := below_drewN hB2 j3
    clear hB2 hr2 hR1
    go_wp2_with fail
    have hM := shr_bd x (s % 64).toNat hx0 hx1
    refine (append_any _ _ _ _ _ _ (h.below hB3) hM (by omega)).mono ?_
    rintro e w4 ⟨A1, n1, c1, rfl, hr1, hb1⟩
    have hB4 := hB3.trans (hb1.mono hB3.size)
    go_wp2_with fail
    refine (rappend_any _ _ _ _ _ _ (h.below hB4) hM (by omega)).mono ?_
    rintro e w5 ⟨A2, n2, c2, rfl, hr2, hb2⟩
    obtain rfl : n1 = n2 := hr1.len.symm.trans hr2.len
    have hB5 := hB4.trans (hb2.mono hB4.size)
    have hR1 := hr1.below hb2
    clear hr1 hb2 hb1 hB4 hB3
    go_wp2_with fail
    refine (same_yes _ _ _ _ _ _ _ hR1 hr2).mono ?_
    rintro e w6 ⟨rfl, j6, rfl⟩
    have hB6 := below_drewN hB5 j6
    clear hB5 hr2 hR1
    go_wp2_with fail
    refine (size_any _ _ ⟨hx0, hx1⟩).mono ?_
    rintro e w' ⟨rfl, rfl⟩
    go_wp2_with fail
    refine (rsize_any _ _ ⟨hx0, hx1⟩).mono ?_
    rintro e w7 ⟨rfl, hb7⟩
    have hB7 := hB6.trans (hb7.mono hB6.size)
    clear hb7 hB6
    go_wp2_with fail
    refine (size_any _ _ hM).mono ?_
    rintro e w' ⟨rfl, rfl⟩
    go_wp2_with fail
    refine (rsize_any _ _ hM).mono ?_
    rintro e w8 ⟨rfl, hb8⟩
    have hB8 := hB7.trans (hb8.mono hB7.size)
    clear hb8 hB7
    go_wp2_with fail
    refine (awake_any _).mono ?_
    rintro e w9 ⟨rfl, hb9⟩
    have hB9 := hB8.trans (hb9.mono hB8.size)
    clear hb9 hB8
    go_wp2
    go_ret
    exact ⟨rfl, hB9⟩
end Go.Proofs.Ytellnmoopecfdaa
