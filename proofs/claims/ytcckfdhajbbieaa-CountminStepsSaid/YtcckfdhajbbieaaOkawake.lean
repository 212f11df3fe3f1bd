/- The statements about package countmin: awake. Conditions: the program's sketches keep their contracts (ProgSk). -/
import Derived.Test.YtcckfdhajbbieaaCk
namespace Go.Proofs.Ytcckfdhajbbieaa
open Go.ChangeShapes Go.WideShapes Go.ChangeAt Go.RowKit
set_option linter.unusedVariables false
set_option linter.unusedSimpArgs false
set_option maxRecDepth 100000

section
variable {T : List Int} {sd c x : Int} {k : ByteArray}
theorem ix_one (i : Nat) : ixH T sd k i 1 = 0 := by
  obtain ⟨q, hq, hl⟩ := slotP_bd (h := rowP T sd (i : Int) k) (n := 1) (rowP_bd T sd i k).1 (Nat.le_refl _)
  show (slotP _ ((1 : Nat) : Int)).toNat = 0
  rw [hq]
  omega
theorem est_one (h0 : 0 ≤ c) (h1 : c ≤ 18446744073709551615) : estK (ixH T sd) [[c]] k = c := by
  unfold estK
  rw [if_neg (by simp)]
  show estAt _ 0 topU [[c]] = c
  unfold estAt
  rw [if_neg (by simp)]
  show min topU ([c].getD (ixH T sd k 0 1) 0) = c
  rw [ix_one]
  show min topU c = c
  unfold topU
  omega
theorem add_one' (h0 : 0 ≤ c) (hx : 0 < x) (hs : c + x ≤ 9223372036854775808) (hk : k.size ≠ 0) : (⟨[[c]], c⟩ : KSt).add (ixH T sd) k x = (0, ⟨[[c + x]], c + x⟩) := by
  rw [add_okK hk (by omega) (decide_eq_true hs)]
  show (0, (⟨putAt _ (estK (ixH T sd) [[c]] k + x) 0 [[c]], c + x⟩ : KSt)) = _
  rw [est_one h0 (by omega)]
  show (0, (⟨[[c].set (ixH T sd k 0 1) (max ([c].getD (ixH T sd k 0 1) 0) (c + x))], c + x⟩ : KSt)) = _
  rw [ix_one]
  show (0, (⟨[[max c (c + x)]], c + x⟩ : KSt)) = _
  rw [show max c (c + x) = c + x by omega]
end
set_option maxHeartbeats 4000000 in
theorem kawake_any {PK : RepSk} (HP : ProgSk PK) (w : World) : Calls Try.prog 9 #[] w fun e w' => e = .returned (.bool true) ∧ Below w.heap.size w w' := by
  obtain ⟨CS, hmk, hOw⟩ := make_any kU (n := 16) (by omega) (z := 0) rfl
  have hmk' : ∀ W : World, (Instr.makeSlice 22 (.int .i64 16) (.int .i64 16)).run Try.prog W = .ok (.slice (some ⟨W.heap.size, 0, none⟩) 16 16) (W.alloc (.cells CS 34)) := hmk
  have b1 : Below w.heap.size w (w.alloc (.cells CS 34)) := (Below.refl _ _).alloc (Nat.le_refl _) _
  have S1 := (Since.start w).belowL b1
  have R1 : RdU (w.alloc (.cells CS 34)) (some ⟨w.heap.size, 0, none⟩) 16 16 (List.replicate 16 0) := RdU.ofK (hOw w).reads fun z hz => by rw [(List.mem_replicate.1 hz).2]; omega
  have hN := HP.new (k := 16) S1.tidy (by omega) R1 1 1 (by unfold J64; omega) (by unfold J64; omega) (sd := 0) (by omega)
  have hc : ckE 1 1 16 = 0 := by decide
  generalize List.replicate 16 (0 : Int) = T at *
  obtain ⟨W1, hW1⟩ : ∃ W1, W1 = w.alloc (.cells CS 34) := ⟨_, rfl⟩
  obtain ⟨B, hB⟩ : ∃ B, w.heap.size = B := ⟨_, rfl⟩
  rw [← hW1, hB] at hN
  rw [← hW1] at S1
  have HS := Lib.hid S1
  clear hmk hOw R1 S1 b1
  go_enter Try.func9, Try.ntmps9
  go_wp2_with fail
  rw [← hW1]
  clear hW1 hB
  refine hN.mono ?_
  rintro e w2 (⟨_, g, rfl, col2, p2, s2⟩ | ⟨h0, _⟩)
  rotate_left
  · exact absurd hc h0
  have A2 : AtSk PK w col2 w2 16 g T 0 (⟨[[0]], 0⟩ : KSt) := ⟨HS.out.step s2 (rng0 (by omega)), p2⟩
  clear hN hc p2 s2 HS
  have hA := HP.add A2.pt A2.tidy ⟨#[97]⟩ 5 (by decide) (by omega)
  rw [add_one' (by omega) (by omega) (by omega) (by decide)] at hA
  go_wp2_with fail
  refine hA.mono ?_
  rintro e w3 ⟨rfl, hd⟩
  obtain ⟨col3, A3⟩ := A2.did (by omega) hd
  clear A2 hA hd
  have hB := HP.add A3.pt A3.tidy ⟨#[98]⟩ 3 (by decide) (by omega)
  rw [add_one' (by omega) (by omega) (by omega) (by decide)] at hB
  go_wp2_with fail
  refine hB.mono ?_
  rintro e w4 ⟨rfl, hd⟩
  obtain ⟨col4, A4⟩ := A3.did (by omega) hd
  clear A3 hB hd
  have hE := HP.est A4.pt A4.tidy ⟨#[99]⟩ (by decide)
  rw [est_one (by omega) (by omega)] at hE
  go_wp2_with fail
  refine hE.mono ?_
  rintro e w5 ⟨rfl, hb5⟩
  have A5 := A4.below HP hb5
  clear A4 hE hb5
  have hT := HP.total A5.pt A5.tidy
  go_wp2_with fail
  refine hT.mono ?_
  rintro e w6 ⟨rfl, hb6⟩
  have hb := (A5.below HP hb6).since.below
  clear A5 hT hb6
  go_wp2
  go_ret
  exact ⟨rfl, hb⟩
end Go.Proofs.Ytcckfdhajbbieaa
