/- The specified table in memory: without, Get, Take. Conditions: none beyond those typed. -/
import Derived.Test.YtjkomnjkolggnaaSvref
import Derived.Test.YtjkomnjkolggnaaBm
import Derived.Test.YtjkomnjkolggnaaZpaint
import Derived.Test.YtjkomnjkolggnaaQlate
import Derived.Deep.RegionLaw
namespace Go.Proofs.Ytjkomnjkolggnaa
open Go.ChangeShapes Go.WideShapes Go.ChangeAt Go.RowKit
set_option linter.unusedVariables false
set_option linter.unusedSimpArgs false
set_option maxRecDepth 100000

/-- A row in new memory, its own. -/
def OwnOut {α : Type} (K : Kind α) (w : World) (N : Nat) (l : List α) (e : Ending) (w' : World) : Prop := ∃ A c, e = .returned (.slice A N c) ∧ OwnK K w' (.slice A N c) l ∧ New w (.slice A N c) ∧ Below w.heap.size w w'
set_option maxHeartbeats 2000000 in
theorem without_any {w : World} {b n c i : Nat} {l : List En} (h : RdG kEn w (some ⟨b, 0, none⟩) n c l) (hn : n ≤ 1000000) (hi : i < n) :
    Calls Try.prog 39 #[.slice (some ⟨b, 0, none⟩) n c, .int .i64 (i : Int)] w (OwnOut kEn w (n - 1) (withoutE l i)) := by
  have hcap := h.cap
  have hmax := h.max
  have hl := h.len
  obtain ⟨q1, hq1⟩ : ∃ q1 : Nat, q1 = i + 1 := ⟨_, rfl⟩
  have hwq : IntKind.i64.wrap ((i : Int) + 1) = (q1 : Int) := by rw [IntKind.wrap_i64]; omega
  obtain ⟨AD, hAD, r2⟩ : ∃ AD, (if c = q1 then (some ⟨b, 0, none⟩ : Option Addr) else some ⟨b, q1 * 3, none⟩) = some AD ∧ RdG kEn w (some AD) (n - q1) (c - q1) (l.drop q1) := by
    have h := h.dropIf (i := q1) (by omega)
    rw [show 0 + q1 * kEn.k = q1 * 3 by simp [kEn]] at h
    by_cases hc : c = q1
    · rw [if_pos hc] at h ⊢; exact ⟨_, rfl, h⟩
    · rw [if_neg hc] at h ⊢; exact ⟨_, rfl, h⟩
  have r1 := h.head (j := i) (by omega)
  have hq2 : (q1 : Int) ≤ (n : Int) := by omega
  have hKh : (i : Int) ≤ (c : Int) := by omega
  have hby1 : ([] : List En).length + i ≤ 1000000000 := by simp; omega
  have hby2 : ([] ++ l.take i).length + (n - q1) ≤ 1000000000 := by simp; omega
  have hOl : ([] ++ l.take i ++ l.drop q1).length = n - 1 := by simp; omega
  have HW := Lib.hid (show [] ++ l.take i ++ l.drop q1 = withoutE l i by unfold withoutE; rw [hq1]; simp)
  clear hq1 h
  go_enter Try.func39, Try.ntmps39
  go_wp2
  go_region_law (first | (refine step_appN kEn w rfl (.tmp 5) (.tmp 8) rfl _ [] rfl (some ⟨b, 0, none⟩) i c _ rfl (OwnK.empty kEn rfl) (New.lit (Nat.le_refl _)) (bd1 _ _) (r1.below (bd1 _ _)) hby1 ?_; intro v4 w4 O4 N4 B4) | (refine step_appN kEn w rfl (.tmp 9) (.tmp 13) rfl _ _ rfl (some AD) (n - q1) (c - q1) _ rfl O4 N4 B4 (r2.below B4) hby2 ?_; intro v5 w5 O5 N5 B5; obtain ⟨A5, c5, rfl, _, _⟩ := O5.form hOl))
  all_goals
    have HO := Lib.hid (show OwnK kEn w5 (.slice A5 (n - 1) c5) (withoutE l i) by rw [← HW.out]; exact O5)
    clear O5 O4 r1 r2
    go_wp2
    go_ret
    exact ⟨A5, c5, rfl, HO.out, N5, B5⟩
/-- An entry is written into its box. -/
theorem vbox_en {col : Col} {w : World} {g' c : Nat} {a : En} (X : BoxC col w g' c (VE a) 32) (e : En) :
    BoxC col (((w.setCell ⟨g', 0, none⟩ (.string e.1)).setCell ⟨g', 1, none⟩ (.int .u64 e.2.1)).setCell ⟨g', 2, none⟩ (.int .u64 e.2.2)) g' c (VE e) 32 := ((X.put 0 _).put 1 _).put 2 _
section
variable {P : Nat → Prop} {col col' : Col} {w w' : World} {k g : Nat} {t : TSt}
end
end Go.Proofs.Ytjkomnjkolggnaa
