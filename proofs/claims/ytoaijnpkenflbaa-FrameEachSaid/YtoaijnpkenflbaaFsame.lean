/- == on inputs; heavykeysref01.SameInputs on equal lists. Conditions: none beyond those typed. -/
import Derived.Test.YtoaijnpkenflbaaFin
namespace Go.Proofs.Ytoaijnpkenflbaa
open Go.ChangeShapes Go.WideShapes Go.ChangeAt Go.RowKit
set_option linter.unusedVariables false
set_option linter.unusedSimpArgs false
set_option maxRecDepth 100000

theorem fields_input : Try.prog.underlying 51 = some (.struct (Try.prog.fieldsOf 51)) := by
  unfold Program.fieldsOf; rw [Try.underlying51]
theorem eqIn_itemG (d : Nat) (s s' : ByteArray) (t t' x x' : Int) (w : World) : (Op.equalIn (d + 1 + 1) 47 (.agg #[.string s, .int .i64 t, .int .u64 x]) (.agg #[.string s', .int .i64 t', .int .u64 x'])).run Try.prog w = .ok (decide (s = s') && (decide (t = t') && decide (x = x'))) w := by
  have h9 := fun w => Try.isAgg9 w
  have h8 := fun w => Try.isAgg3 w
  have h7 := fun w => Try.isAgg28 w
  rw [run_equalIn_agg w (d + 1) _ _ _ fields_item (by kernel_rfl)]
  unfold Program.fieldsOf
  rw [Try.underlying47]
  have e1 : ∀ (a b : ByteArray) (d : Nat) (w : World), (Op.equalIn (d + 1) 9 (.string a) (.string b)).run Try.prog w = .ok (decide (a = b)) w := fun a b d w => by
    rw [run_equalIn_string w d _ a b Try.underlying9, str_beq]
  simp [Op.eqFields, part, h9, h8, h7]
  rw [e1]
  simp [Result.andThen, run_equalIn_int]
  by_cases hs : s = s'
  · by_cases ht : t = t'
    · by_cases hx : x = x' <;> simp [hs, ht, hx]
    · simp [hs, ht]
  · simp [hs]
theorem eqIn_input (p q : Inp) (w : World) : (Op.equalIn 10000 51 (inV p) (inV q)).run Try.prog w = .ok (decide (p = q)) w := by
  obtain ⟨s, t, x, y⟩ := p
  obtain ⟨s', t', x', y'⟩ := q
  have h8 := fun w => Try.isAgg3 w
  have h7 := fun w => Try.isAgg47 w
  unfold inV
  rw [run_equalIn_agg w 9999 _ _ _ fields_input (by kernel_rfl)]
  unfold Program.fieldsOf
  rw [Try.underlying51]
  simp [Op.eqFields, part, h8, h7]
  rw [eqIn_itemG 9997]
  simp only [Result.andThen]
  have e8 : ∀ w, (Op.equalIn 9999 3 (.int .i64 y) (.int .i64 y')).run Try.prog w = .ok (y == y') w := fun w => run_equalIn_int (P := Try.prog) w 9998 3 .i64 .i64 y y' Try.underlying3
  rw [e8]
  by_cases hs : s = s'
  · by_cases ht : t = t'
    · by_cases hx : x = x'
      · by_cases hy : y = y' <;> simp [hs, ht, hx, hy]
      · simp [hs, ht, hx]
    · simp [hs, ht]
  · simp [hs]
theorem eqIn_cells (s s' : ByteArray) (t t' x x' y y' : Int) (w : World) : (Op.equalIn 10000 51 (.agg #[.string s, .int .i64 t, .int .u64 x, .int .i64 y]) (.agg #[.string s', .int .i64 t', .int .u64 x', .int .i64 y'])).run Try.prog w = .ok (decide (((s, t, x, y) : Inp) = (s', t', x', y'))) w :=
  eqIn_input (s, t, x, y) (s', t', x', y') w

set_option maxHeartbeats 400000 in
theorem sameInputs_yes (A A' : Option Addr) (n c c' : Nat) (l : List Inp) (w : World) (h : RdN w A n c l) (h' : RdN w A' n c' l) :
    Calls Try.prog 16 #[.slice A n c, .slice A' n c'] w (YesDrawn w) := by
  have hcap := h.cap
  have hmax := h.max
  have hcap' := h'.cap
  have hmax' := h'.max
  have hlen := Lib.hid h.len
  have hnn : ((n : Int) != (n : Int)) = false := by simp
  go_enter Try.func16, Try.ntmps16
  go_wp2
  go_loopw [13] (fun i wr => ∃ k j : Nat, k ≤ n ∧ i = .int .i64 k ∧ wr = w.drewN j) (fun i _ => n - (intOf i).toNat)
  case atStart => exact ⟨0, 0, Nat.zero_le _, rfl, rfl⟩
  case round =>
    obtain ⟨k, j, hk, rfl, rfl⟩ := hrel
    by_cases hlt : k < n
    · obtain ⟨b, o, s, t, x, y, rfl, hz, hb, c0, c1, c2, c3⟩ := h.at_ hlt
      obtain ⟨b', o', s', t', x', y', rfl, hz', hb', c0', c1', c2', c3'⟩ := h'.at_ hlt
      rw [hz] at hz'
      obtain ⟨rfl, rfl, rfl, rfl⟩ : s = s' ∧ t = t' ∧ x = x' ∧ y = y' := by simpa using hz'
      clear hz hz'
      have hQ := eqIn_cells s s t t x x y y
      rw [decide_eq_true rfl] at hQ
      go_wp2
      go_quiet (fail)
      go_wp2
      go_roundw
      case rel => exact ⟨k + 1, _, by omega, by go_num, rfl⟩
      case measure => simp [intOf]; omega
    · go_wp2
      go_ret
      exact ⟨rfl, _, rfl⟩
end Go.Proofs.Ytoaijnpkenflbaa
