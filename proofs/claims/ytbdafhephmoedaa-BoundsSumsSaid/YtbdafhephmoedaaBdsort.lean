/- The program's Sort of lines (over a trial of the code: slices.Clone and slices.SortStableFunc). Conditions: none beyond those typed. -/
import Derived.Test.YtbdafhephmoedaaBdland
namespace Go.Proofs.Ytbdafhephmoedaa
open Go.ChangeShapes Go.WideShapes Go.ChangeAt Go.RowKit
set_option linter.unusedVariables false
set_option linter.unusedSimpArgs false
set_option maxRecDepth 100000

/-- A copy of a row of lines: in new memory, or none. -/
def CloneLn (w : World) (n : Nat) (L : List En) (e : Ending) (w' : World) : Prop :=
  ∃ A c, e = .returned (.slice A n c) ∧ n ≤ c ∧ c ≤ 9223372036854775807 ∧ Below w.heap.size w w' ∧ (n = 0 ∨ ∃ g, A = some ⟨g, 0, none⟩ ∧ w.heap.size ≤ g ∧ OwnK kLn w' (.slice (some ⟨g, 0, none⟩) n c) L)
set_option maxHeartbeats 1000000 in
theorem cloneL_any {A : Option Addr} {n c : Nat} {L : List En} {w : World} (h : RdG kLn w A n c L) (hn : n ≤ 1000000) : Calls Try.prog 27 #[.slice A n c] w (CloneLn w n L) := by
  have hln := h.len
  have hcp := h.cap
  have hmx := h.max
  cases A with
  | none =>
    have hn0 : n = 0 := by
      rcases Nat.eq_zero_or_pos n with h0 | h0
      · exact h0
      · obtain ⟨b, o, e, hA, _⟩ := h.atLn h0; cases hA
    subst hn0
    have hnil : ∀ W, (binOp .eql 33 (.slice none 0 c) (.slice none 0 0)).run Try.prog W = .ok (.bool true) W := fun W => Lib.run_eql_slice_nil_nil W _ _ Try.underlying33
    clear h
    go_enter Try.func27, Try.ntmps27
    go_wp2
    go_ret
    exact ⟨none, 0, rfl, Nat.le_refl _, by omega, Below.refl _ _, .inl rfl⟩
  | some a =>
    have hnil : ∀ W, (binOp .eql 33 (.slice (some a) n c) (.slice none 0 0)).run Try.prog W = .ok (.bool false) W := fun W => Lib.run_eql_slice_some_nil W _ _ _ Try.underlying33
    have b1 : Below w.heap.size w (w.alloc (.cells #[] 43)) := (Below.refl _ _).alloc (Nat.le_refl _) _
    have R1 := h.below b1
    have O1 : OwnK kLn (w.alloc (.cells #[] 43)) (.slice (some ⟨w.heap.size, 0, none⟩) 0 0) [] := OwnK.empty' kLn rfl rfl
    have N1 : New w (.slice (some ⟨w.heap.size, 0, none⟩) 0 0) := New.lit (Nat.le_refl _)
    have hby : ([] : List En).length + n ≤ 1000000000 := by simp; omega
    have hl2 : ([] ++ L).length = n := by simp [hln]
    clear h
    go_enter Try.func27, Try.ntmps27
    go_wp2_with (at_builtin; refine wpList_appK kLn rfl (.tmp 5) (.tmp 6) rfl _ [] rfl _ n c L rfl O1 R1 hby ?_; intro v2 w2 O2 G2 hat2; have N2 : New w v2 := New.app N1 b1 hat2; have B2 := b1.grown G2 b1.size (fun q hq => N1 q hq); obtain ⟨A2, c2, rfl, R2, hh⟩ := O2.form hl2)
    go_ret
    refine ⟨A2, c2, rfl, R2.cap, R2.max, B2, ?_⟩
    rcases hh with ⟨_, h2, _⟩ | ⟨g, rfl, hg⟩
    · left; simp at h2; subst h2; simpa using hln.symm
    · exact .inr ⟨g, rfl, N2 g rfl, by simpa using O2⟩
/-- Nothing is to be sorted. -/
theorem insert0_any (A : Option Addr) (c : Nat) (f : Value) (w : World) : Calls Try.prog 36 #[.slice A 0 c, .int .i64 0, .int .i64 0, f] w fun e w' => e = .returned (.tuple #[]) ∧ w' = w := by
  go_enter Try.func36, Try.ntmps36
  go_wp2
  go_loopw [8] (fun iv wr => iv = .int .i64 1 ∧ wr = w) (fun _ _ => 0)
  case atStart => exact ⟨rfl, rfl⟩
  case round =>
    obtain ⟨rfl, rfl⟩ := hrel
    go_wp2
    go_end0
    exact ⟨rfl, rfl⟩
theorem stable0_any (A : Option Addr) (c : Nat) (f : Value) (w : World) : Calls Try.prog 33 #[.slice A 0 c, .int .i64 0, f] w fun e w' => e = .returned (.tuple #[]) ∧ w' = w := by
  have hI := fun W => insert0_any A c f W
  go_enter Try.func33, Try.ntmps33
  go_wp2
  go_loopw [7, 8] (fun av bv wr => av = .int .i64 0 ∧ bv = .int .i64 20 ∧ wr = w) (fun _ _ _ => 0)
  case atStart => exact ⟨rfl, rfl, rfl⟩
  case round =>
    obtain ⟨rfl, rfl, rfl⟩ := hrel
    go_wp2_with fail
    refine (hI _).mono ?_
    rintro e w2 ⟨rfl, hw⟩
    subst hw
    go_wp2
    go_loopw [6] (fun tv wr => tv = .int .i64 20 ∧ wr = w2) (fun _ _ => 0)
    case atStart => exact ⟨rfl, rfl⟩
    case round =>
      obtain ⟨rfl, rfl⟩ := hrel
      go_wp2
      go_end0
      exact ⟨rfl, rfl⟩
theorem sortStable0_any (A : Option Addr) (c : Nat) (f : Value) (w : World) : Calls Try.prog 28 #[.slice A 0 c, f] w fun e w' => e = .returned (.tuple #[]) ∧ w' = w := by
  have hI := fun W => stable0_any A c f W
  go_enter Try.func28, Try.ntmps28
  go_wp2_with fail
  refine (hI _).mono ?_
  rintro e w2 ⟨rfl, hw⟩
  subst hw
  go_wp2
  go_end0
  exact ⟨rfl, rfl⟩
set_option maxHeartbeats 1000000 in
theorem bSort_any {w : World} {A : Option Addr} {n c : Nat} {L : List En} (h : RdG kLn w A n c L) (hn : n ≤ 1000) : Calls Try.prog 19 #[.slice A n c] w (SrtOut w n L) := by
  have hln := h.len
  have hC := cloneL_any h (by omega)
  clear h
  go_enter Try.func19, Try.ntmps19
  go_wp2_with fail
  refine hC.mono ?_
  rintro e w2 ⟨A2, c2, rfl, hcp, hmx, B2, hO⟩
  clear hC
  by_cases h0 : n = 0
  · subst h0
    clear hO
    go_wp2_with fail
    refine (sortStable0_any _ _ _ _).mono ?_
    rintro e w3 ⟨rfl, hw⟩
    subst hw
    have HF := Lib.hid (show SrtOut w 0 L (.returned (.slice A2 0 c2)) w3 from ⟨A2, c2, [], rfl, ⟨by rw [List.length_eq_zero_iff.1 hln]; exact SmL.refl _, List.Pairwise.nil⟩, (show RdG kLn w3 A2 0 c2 [] from ⟨rfl, hcp, hmx, fun j a h => (by simp at h)⟩), B2⟩)
    clear B2
    go_wp2
    go_ret
    exact HF.out
  · rcases hO with hO | ⟨g, rfl, hg, hO⟩
    · exact absurd hO h0
    have hS := sortStableL_any hO (by omega)
    clear hO
    go_wp2_with fail
    refine hS.mono ?_
    rintro e w3 ⟨rfl, L', hM, hR⟩
    have HF := Lib.hid (show SrtOut w n L (.returned (.slice (some ⟨g, 0, none⟩) n c2)) w3 from ⟨_, c2, L', rfl, hM, hR.own.reads, B2.grown hR.grown B2.size (fun q hq => Nat.le_trans hg (Nat.le_of_eq (Option.some.inj hq)))⟩)
    clear B2 hR hM hS
    go_wp2
    go_ret
    exact HF.out
theorem progSt : ProgSt := ⟨fun h hn => bSort_any h hn⟩
end Go.Proofs.Ytbdafhephmoedaa
