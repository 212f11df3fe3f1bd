/- The statements about package bounds: awake. Conditions: the program's bounds keep their contracts (ProgBd, ProgSt). -/
import Derived.Test.YtbdafhephmoedaaBdprog
namespace Go.Proofs.Ytbdafhephmoedaa
open Go.ChangeShapes Go.WideShapes Go.ChangeAt Go.RowKit
set_option linter.unusedVariables false
set_option linter.unusedSimpArgs false
set_option maxRecDepth 100000

/-- The chapter's lines. -/
def lnA : En := (⟨#[97]⟩, 1, 7)
def lnBb : En := (⟨#[98]⟩, 0, 7)
def lnC : En := (⟨#[99]⟩, 9, 9)
theorem ex_b1 : MgL [lnBb, lnA, lnC] [lnC, lnA, lnBb] := by
  have h1 : SmL ([lnBb, lnA] ++ [lnC]) ([lnC] ++ [lnBb, lnA]) := SmL.swap fun x hx y hy => by
    rw [List.mem_singleton.1 hy]
    rcases List.mem_cons.1 hx with e | hx
    · rw [e]; kernel_rfl
    · rw [List.mem_singleton.1 hx]; kernel_rfl
  have h2 : SmL ([lnBb] ++ [lnA]) ([lnA] ++ [lnBb]) := SmL.swap fun x hx y hy => by
    rw [List.mem_singleton.1 hx, List.mem_singleton.1 hy]; kernel_rfl
  refine ⟨h1.trans ((SmL.refl [lnC]).app h2), ?_⟩
  refine List.pairwise_cons.2 ⟨fun y hy => ?_, List.pairwise_cons.2 ⟨fun y hy => ?_, List.pairwise_singleton _ _⟩⟩
  · rcases List.mem_cons.1 hy with e | hy
    · rw [e]; kernel_rfl
    · rw [List.mem_singleton.1 hy]; kernel_rfl
  · rw [List.mem_singleton.1 hy]; kernel_rfl
theorem ex_b2 : adD (2, 5) (0, 3) = (2, 8) := by kernel_rfl
set_option maxHeartbeats 2000000 in
theorem bawake_any (HB : ProgBd) (HS : ProgSt) (w : World) : Calls Try.prog 15 #[] w fun e w' => e = .returned (.bool true) ∧ Below w.heap.size w w' := by
  have b1 : Below w.heap.size w (w.alloc (.cells #[.string ⟨#[98]⟩, .int .u64 0, .int .u64 7, .string ⟨#[97]⟩, .int .u64 1, .int .u64 7, .string ⟨#[99]⟩, .int .u64 9, .int .u64 9] 43)) := (Below.refl _ _).alloc (Nat.le_refl _) _
  have R1 := RdG.litL w [lnBb, lnA, lnC] (cs := #[.string ⟨#[98]⟩, .int .u64 0, .int .u64 7, .string ⟨#[97]⟩, .int .u64 1, .int .u64 7, .string ⟨#[99]⟩, .int .u64 9, .int .u64 9]) rfl (by decide)
  have hC := HS.sort R1 (by decide)
  have hQ := eqIn_bD 2 2 8 8
  rw [decide_eq_true rfl] at hQ
  clear R1
  go_enter Try.func15, Try.ntmps15
  go_wp2_with fail
  refine hC.mono ?_
  rintro e w2 ⟨A, c, L', rfl, hM, hR, h2⟩
  obtain rfl : L' = [lnC, lnA, lnBb] := srtL_one hM.srt ex_b1.srt (hM.sm.symm.trans ex_b1.sm)
  have b2 := below_then b1 h2
  have hA := HB.add (2, 5) (0, 3) w2 ⟨⟨by decide, by decide⟩, ⟨by decide, by decide⟩⟩ ⟨⟨by decide, by decide⟩, ⟨by decide, by decide⟩⟩
  rw [ex_b2] at hA
  clear hC hM h2 b1
  go_wp2_with fail
  refine hA.mono ?_
  rintro e w3 ⟨rfl, h3⟩
  have b3 := below_then b2 h3
  have hR3 := hR.below h3
  clear hA hR h3 b2
  obtain ⟨b, o, x0, rfl, e0, u0, _, _⟩ := hR3.atLn (j := 0) (by decide)
  obtain ⟨b', o', x1, hA1, e1, u1, _, _⟩ := hR3.atLn (j := 1) (by decide)
  obtain ⟨b'', o'', x2, hA2, e2, u2, _, _⟩ := hR3.atLn (j := 2) (by decide)
  injection hA1 with hA1; injection hA1 with q1 q2; subst q1 q2
  injection hA2 with hA2; injection hA2 with q1 q2; subst q1 q2
  injection e0 with e0; injection e1 with e1; injection e2 with e2
  have hcap := hR3.cap
  have hmax := hR3.max
  subst e0 e1 e2
  have u0' : w3.cell? ⟨b, o, none⟩ = some (.string ⟨#[99]⟩) := u0
  have u1' : w3.cell? ⟨b, o + 3, none⟩ = some (.string ⟨#[97]⟩) := u1
  have u2' : w3.cell? ⟨b, o + 6, none⟩ = some (.string ⟨#[98]⟩) := u2
  clear u0 u1 u2 hR3
  go_wp2
  go_ret
  exact ⟨rfl, b3⟩
end Go.Proofs.Ytbdafhephmoedaa
