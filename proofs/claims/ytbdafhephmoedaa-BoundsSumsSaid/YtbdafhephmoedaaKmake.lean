/- make of rows. Conditions: none beyond those typed. -/
import Derived.Test.YtbdafhephmoedaaKrow
import Derived.Laws.OwnMore
namespace Go.Proofs.Ytbdafhephmoedaa
open Go.ChangeShapes Go.WideShapes Go.ChangeAt Go.RowKit
set_option linter.unusedVariables false
set_option linter.unusedSimpArgs false
set_option maxRecDepth 100000

/-- make of a row of zeros. -/
theorem make_any {α : Type} (K : Kind α) {n : Nat} (hn : n ≤ 1000000) {z : α} (hz : K.enc z = K.zero.cells.toList) :
    ∃ CS : Array Value, (∀ W : World, (Instr.makeSlice K.sl (.int .i64 (n : Int)) (.int .i64 (n : Int))).run Try.prog W = .ok (.slice (some ⟨W.heap.size, 0, none⟩) n n) (W.alloc (.cells CS K.ty))) ∧ ∀ W : World, OwnK K (W.alloc (.cells CS K.ty)) (.slice (some ⟨W.heap.size, 0, none⟩) n n) (List.replicate n z) := by
  obtain ⟨i0, hi0, hz0, hz1, hz2⟩ := info_parts K.info
  have hsm : K.by_ * n ≤ 100000 * 1000000 := Nat.mul_le_mul K.small hn
  refine ⟨madeCells K.zero.cells (n * K.k), fun W => ?_, fun W => ?_⟩
  · have hb : (i0.bytes : Int) * (n : Int) ≤ 281474976710656 := by
      have h : ((i0.bytes * n : Nat) : Int) ≤ 281474976710656 := by rw [hz2]; omega
      rwa [Int.natCast_mul] at h
    have := run_make (P := Try.prog) W K.sl K.ty i0 K.zero K.under hi0 hz0 .i64 .i64 n n (by omega) (Int.le_refl _) hb (by omega)
    simpa only [Int.toNat_natCast, hz1] using this
  · exact OwnK.made (World.ownsRow_lit W _ n (Nat.zero_le _) (by simp only [maxLen]; omega) (size_madeCells _ _)) hz
/-- make of an empty row with room. -/
theorem make0_any {α : Type} (K : Kind α) {n : Nat} (hn : n ≤ 1000000) :
    ∃ CS : Array Value, (∀ W : World, (Instr.makeSlice K.sl (.int .i64 0) (.int .i64 (n : Int))).run Try.prog W = .ok (.slice (some ⟨W.heap.size, 0, none⟩) 0 n) (W.alloc (.cells CS K.ty))) ∧ ∀ W : World, OwnK K (W.alloc (.cells CS K.ty)) (.slice (some ⟨W.heap.size, 0, none⟩) 0 n) [] := by
  obtain ⟨i0, hi0, hz0, hz1, hz2⟩ := info_parts K.info
  have hsm : K.by_ * n ≤ 100000 * 1000000 := Nat.mul_le_mul K.small hn
  refine ⟨madeCells K.zero.cells (n * K.k), fun W => ?_, fun W => ?_⟩
  · have hb : (i0.bytes : Int) * (n : Int) ≤ 281474976710656 := by
      have h : ((i0.bytes * n : Nat) : Int) ≤ 281474976710656 := by rw [hz2]; omega
      rwa [Int.natCast_mul] at h
    have := run_make (P := Try.prog) W K.sl K.ty i0 K.zero K.under hi0 hz0 .i64 .i64 0 n (by omega) (by omega) hb (by omega)
    simpa only [Int.toNat_natCast, Int.toNat_zero, hz1] using this
  · exact World.ownsRow_made W _ n (Nat.zero_le _) (by simp only [maxLen]; omega) (size_madeCells _ _)
theorem OwnK.one {α : Type} {K : Kind α} {w : World} {h : Nat} (e : h = w.heap.size) (a : α) {cs : Array Value} (hc : cs.toList = K.enc a) : OwnK K (w.alloc (.cells cs K.ty)) (.slice (some ⟨h, 0, none⟩) 1 1) [a] := by
  subst e
  have hl : cs.size = K.k := by rw [← Array.length_toList, hc, K.len]
  have he : cellsK K [a] = cs.toList := by rw [hc]; simp [cellsK]
  exact ⟨by rw [he, Array.length_toList, hl]; simp, .inr ⟨_, 1, cs, rfl, Nat.zero_le _, heap_alloc_new w _, Nat.le_refl _, by simp [maxLen], by rw [hl, Nat.one_mul], by
    rw [he, List.take_of_length_le]
    rw [Array.length_toList, hl]
    simp⟩⟩
end Go.Proofs.Ytbdafhephmoedaa
