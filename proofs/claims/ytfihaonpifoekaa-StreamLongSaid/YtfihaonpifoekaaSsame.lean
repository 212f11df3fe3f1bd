/- heavykeysref01: SameStream, SameChunks, Idle; stream.Idle. Conditions: none beyond those typed. -/
import Derived.Test.YtfihaonpifoekaaSrow
import Derived.Deep.RegionHeld3
namespace Go.Proofs.Ytfihaonpifoekaa
open Go.ChangeShapes Go.WideShapes Go.ChangeAt Go.RowKit
set_option linter.unusedVariables false
set_option linter.unusedSimpArgs false
set_option maxRecDepth 100000

set_option maxHeartbeats 1000000 in
theorem sameStream_yes (A B : Option Addr) (n c d : Nat) (k : Int) (br : Bool) (l : List Int) (w : World) (hA : Rd w A n c l) (hB : Rd w B n d l) :
    Calls Try.prog 11 #[.agg #[.slice A n c, .int .u64 k, .bool br], .agg #[.slice B n d, .int .u64 k, .bool br]] w (Yes w) := by
  have hb1 : Below w.heap.size w (w.alloc (.cells #[.slice A n c, .int .u64 k, .bool br] 29)) := (Below.refl _ _).alloc (Nat.le_refl _) _
  have hb2 := hb1.alloc hb1.size (.cells #[.slice B n d, .int .u64 k, .bool br] 29)
  have hS := (SBox.new w A n c k br).below ((Below.refl _ _).alloc (Nat.le_refl _) (.cells #[.slice B n d, .int .u64 k, .bool br] 29))
  have hT := SBox.new (w.alloc (.cells #[.slice A n c, .int .u64 k, .bool br] 29)) B n d k br
  rw [show (w.alloc (.cells #[.slice A n c, .int .u64 k, .bool br] 29)).heap.size = w.heap.size + 1 from by simp] at hT
  have hA2 := hA.below hb2
  have hB2 := hB.below hb2
  have x0 := hS.c0
  have y0 := hT.c0
  go_enter Try.func11, Try.ntmps11
  go_wp2_with fail
  obtain ⟨W2, hW2⟩ : ∃ W2, W2 = (w.alloc (.cells #[.slice A n c, .int .u64 k, .bool br] 29)).alloc (.cells #[.slice B n d, .int .u64 k, .bool br] 29) := ⟨_, rfl⟩
  rw [← hW2] at hb2 hS hT hA2 hB2 x0 y0 ⊢
  clear hW2
  refine (same_yes A B n c d l W2 hA2 hB2).mono ?_
  rintro e w3 ⟨rfl, j, rfl⟩
  have x1 := hS.c1
  have x2 := hS.c2
  have y1 := hT.c1
  have y2 := hT.c2
  go_wp2
  go_ret
  exact ⟨by cases br <;> simp, below_drewN hb2 _⟩

def idleB (s : St) : Bool := !s.2.2 && decide (s.2.1 = 0) && decide (s.1.length = 0)
set_option maxHeartbeats 1000000 in
theorem idle_any (A : Option Addr) (n c : Nat) (s : St) (w : World) (hA : Rd w A n c s.1) :
    Calls Try.prog 13 #[.agg #[.slice A n c, .int .u64 s.2.1, .bool s.2.2]] w fun e w' => e = .returned (.bool (idleB s)) ∧ Below w.heap.size w w' := by
  obtain ⟨l, k, br⟩ := s
  have hl : l.length = n := hA.len
  cases br with
  | true =>
    have HI := Lib.hid (show idleB (l, k, true) = false by simp [idleB])
    have hb1 : Below w.heap.size w (w.alloc (.cells #[.slice A n c, .int .u64 k, .bool true] 29)) := (Below.refl _ _).alloc (Nat.le_refl _) _
    clear hl
    go_enter Try.func13, Try.ntmps13
    go_wp2
    go_ret
    exact ⟨ret_bool HI.out.symm, hb1⟩
  | false =>
    have hb1 : Below w.heap.size w (w.alloc (.cells #[.slice A n c, .int .u64 k, .bool false] 29)) := (Below.refl _ _).alloc (Nat.le_refl _) _
    by_cases hk : k = 0
    · subst hk
      have HI := Lib.hid (show idleB (l, 0, false) = ((n : Int) == 0) by
        by_cases h0 : n = 0
        · simp [idleB, hl, h0]
        · simp [idleB, hl, h0])
      clear hl
      go_enter Try.func13, Try.ntmps13
      go_wp2
      go_ret
      exact ⟨ret_bool HI.out.symm, hb1⟩
    · have HI := Lib.hid (show idleB (l, k, false) = false by simp [idleB, hk])
      have hk' : (k == 0) = false := beq_false_of_ne hk
      clear hl
      go_enter Try.func13, Try.ntmps13
      go_wp2
      go_ret
      exact ⟨ret_bool HI.out.symm, hb1⟩
set_option maxHeartbeats 1000000 in
theorem ridle_any (A : Option Addr) (n c : Nat) (s : St) (w : World) (hA : Rd w A n c s.1) :
    Calls Try.prog 14 #[.agg #[.slice A n c, .int .u64 s.2.1, .bool s.2.2]] w fun e w' => e = .returned (.bool (idleB s)) ∧ Below w.heap.size w w' := by
  obtain ⟨l, k, br⟩ := s
  have hl : l.length = n := hA.len
  cases br with
  | true =>
    have HI := Lib.hid (show idleB (l, k, true) = false by simp [idleB])
    have hb1 : Below w.heap.size w (w.alloc (.cells #[.slice A n c, .int .u64 k, .bool true] 29)) := (Below.refl _ _).alloc (Nat.le_refl _) _
    clear hl
    go_enter Try.func14, Try.ntmps14
    go_wp2
    go_ret
    exact ⟨ret_bool HI.out.symm, hb1⟩
  | false =>
    have hb1 : Below w.heap.size w (w.alloc (.cells #[.slice A n c, .int .u64 k, .bool false] 29)) := (Below.refl _ _).alloc (Nat.le_refl _) _
    by_cases hk : k = 0
    · subst hk
      have HI := Lib.hid (show idleB (l, 0, false) = ((n : Int) == 0) by
        by_cases h0 : n = 0
        · simp [idleB, hl, h0]
        · simp [idleB, hl, h0])
      clear hl
      go_enter Try.func14, Try.ntmps14
      go_wp2
      go_ret
      exact ⟨ret_bool HI.out.symm, hb1⟩
    · have HI := Lib.hid (show idleB (l, k, false) = false by simp [idleB, hk])
      have hk' : (k == 0) = false := beq_false_of_ne hk
      clear hl
      go_enter Try.func14, Try.ntmps14
      go_wp2
      go_ret
      exact ⟨ret_bool HI.out.symm, hb1⟩
set_option maxHeartbeats 1000000 in
theorem sameChunks_yes (A B : Option Addr) (n c d : Nat) (L : List Ck) (w : World) (hA : RdC w A n c L) (hB : RdC w B n d L) :
    Calls Try.prog 12 #[.slice A n c, .slice B n d] w fun e w' => e = .returned (.bool true) ∧ ∃ j, w' = w.drewN j := by
  have hcap := hA.cap
  have hmax := hA.max
  have hcap2 := hB.cap
  have hmax2 := hB.max
  have hnn : ((n : Int) != (n : Int)) = false := by simp
  go_enter Try.func12, Try.ntmps12
  go_wp2
  go_loopw [13] (fun i wr => ∃ k j : Nat, k ≤ n ∧ i = .int .i64 k ∧ wr = w.drewN j) (fun i _ => n - (intOf i).toNat)
  case atStart => exact ⟨0, 0, Nat.zero_le _, rfl, rfl⟩
  case round =>
    obtain ⟨k, j, hk, rfl, rfl⟩ := hrel
    by_cases hlt : k < n
    · obtain ⟨b, o, A1, n1, c1, l1, v1, rfl, hz, hb, h0, h1, hr1⟩ := hA.at_ hlt
      obtain ⟨b', o', A2, n2, c2, l2, v2, rfl, hz', hb', h0', h1', hr2⟩ := hB.at_ hlt
      rw [hz] at hz'
      injection hz' with hz'
      injection hz' with e1 e2
      subst e1 e2
      have hnl := hr1.len
      have hnl2 := hr2.len
      obtain rfl : n1 = n2 := by omega
      clear hz hnl hnl2
      have q1 := hr1.drewN j
      have q2 := hr2.drewN j
      clear hr1 hr2
      have hki : (k : Int) < (n : Int) := by omega
      go_wp2
      go_region_held3 (fun w' => w'.cell? ⟨b, o + k * 2, none⟩ = some (.slice A1 n1 c1) ∧ w'.cell? ⟨b, o + k * 2 + 1, none⟩ = some (.int .i64 v1) ∧ w'.cell? ⟨b', o' + k * 2, none⟩ = some (.slice A2 n1 c2) ∧ w'.cell? ⟨b', o' + k * 2 + 1, none⟩ = some (.int .i64 v1)) (first | exact ⟨h0, h1, h0', h1'⟩ | assumption) (first | (go_at_call 17; refine (same_yes _ _ _ _ _ _ _ q1.drew q2.drew).mono ?_; rintro e w5 ⟨rfl, j5, rfl⟩))
      go_wp2
      go_roundw
      case rel => exact ⟨k + 1, _, by omega, by go_num, rfl⟩
      case measure => (simp [intOf] <;> omega)
    · go_wp2
      go_ret
      exact ⟨rfl, _, rfl⟩
end Go.Proofs.Ytfihaonpifoekaa
