/- event.Item, event.Verdict and their twins; heavykeysref01.SameEvent on equal events. Conditions: none beyond those typed. -/
import Derived.Test.YtfihaonpifoekaaEenc
import Derived.Laws.ResultCell
namespace Go.Proofs.Ytfihaonpifoekaa
open Go.ChangeShapes Go.WideShapes Go.ChangeAt Go.RowKit
set_option linter.unusedVariables false
set_option linter.unusedSimpArgs false
set_option maxRecDepth 100000

theorem results_cell_row2 {P : Program} {fn : Func} {p u : Tmp} {ty : TypeId} (h : fn.results = #[.cell p ty, .tmp u]) (tmps : Array Value) (w : World) (g : Nat) (t : TypeId) (cs : Array Value) (fr : Nat × Nat) (d : TypeDesc)
    (hp : tmps.getD p undef = .pointer (some ⟨g, 0, none⟩)) (hg : w.heap[g]? = some (.cells cs t fr))
    (hu : P.underlying ty = some d) (hd : (match d with | .struct _ | .array _ _ => true | _ => false) = true) (hi : (P.info? ty).map (·.size) = some cs.size) :
    (results fn tmps).run P w = .ok (.tuple #[.agg cs, tmps.getD u undef]) w := by
  have hp' : tmps[p]?.getD undef = .pointer (some ⟨g, 0, none⟩) := by simpa using hp
  rw [results_cell_tmp h]
  simp [hp', asAddr, run_loadVar_row w g t ty cs fr d hg hu hd hi, Result.andThen]
theorem results_cell_row3 {P : Program} {fn : Func} {p u v : Tmp} {ty : TypeId} (h : fn.results = #[.cell p ty, .tmp u, .tmp v]) (tmps : Array Value) (w : World) (g : Nat) (t : TypeId) (cs : Array Value) (fr : Nat × Nat) (d : TypeDesc)
    (hp : tmps.getD p undef = .pointer (some ⟨g, 0, none⟩)) (hg : w.heap[g]? = some (.cells cs t fr))
    (hu : P.underlying ty = some d) (hd : (match d with | .struct _ | .array _ _ => true | _ => false) = true) (hi : (P.info? ty).map (·.size) = some cs.size) :
    (results fn tmps).run P w = .ok (.tuple #[.agg cs, tmps.getD u undef, tmps.getD v undef]) w := by
  have hp' : tmps[p]?.getD undef = .pointer (some ⟨g, 0, none⟩) := by simpa using hp
  simp [results, h, hp', asAddr, run_loadVar_row w g t ty cs fr d hg hu hd hi, Result.andThen, Sem.run_bind]

section
variable {w w' : World} {g : Nat} {s : ByteArray} {t x : Int}
end
theorem below_put3 {B : Nat} {w0 w : World} {g : Nat} (h : Below B w0 w) (hg : B ≤ g) (v0 v1 v2 : Value) : Below B w0 (((w.setCell ⟨g, 0, none⟩ v0).setCell ⟨g, 1, none⟩ v1).setCell ⟨g, 2, none⟩ v2) :=
  ((h.setCell (p := ⟨g, 0, none⟩) hg _).setCell (p := ⟨g, 1, none⟩) hg _).setCell (p := ⟨g, 2, none⟩) hg _

def itE (l : List Tg) (t x : Int) : Int := if (t < 0 ∨ 1099511627776 < t) ∨ (x < 1 ∨ 9223372036854775808 < x) then 1 else keyErr l
def itV (l : List Tg) (t x : Int) : Value := if itE l t x = 0 then .agg #[.string (keyBy l), .int .i64 t, .int .u64 x] else .agg #[.string ⟨#[]⟩, .int .i64 0, .int .u64 0]
theorem it_bad {l : List Tg} {t x : Int} (h : (t < 0 ∨ 1099511627776 < t) ∨ (x < 1 ∨ 9223372036854775808 < x)) : itE l t x = 1 ∧ itV l t x = .agg #[.string ⟨#[]⟩, .int .i64 0, .int .u64 0] := by
  have e : itE l t x = 1 := if_pos h
  exact ⟨e, by unfold itV; rw [e, if_neg (by decide)]⟩
theorem it_key {l : List Tg} {t x : Int} (h : ¬ ((t < 0 ∨ 1099511627776 < t) ∨ (x < 1 ∨ 9223372036854775808 < x))) (hk : keyErr l ≠ 0) : itE l t x = keyErr l ∧ itV l t x = .agg #[.string ⟨#[]⟩, .int .i64 0, .int .u64 0] := by
  have e : itE l t x = keyErr l := if_neg h
  exact ⟨e, by unfold itV; rw [e, if_neg hk]⟩
theorem it_ok {l : List Tg} {t x : Int} (h : ¬ ((t < 0 ∨ 1099511627776 < t) ∨ (x < 1 ∨ 9223372036854775808 < x))) (hk : keyErr l = 0) : itE l t x = 0 ∧ itV l t x = .agg #[.string (keyBy l), .int .i64 t, .int .u64 x] := by
  have e : itE l t x = 0 := (if_neg h).trans hk
  exact ⟨e, by unfold itV; rw [if_pos e]⟩
/-- What Item gives back. -/
def ItemOut (l : List Tg) (t x : Int) (w : World) (e : Ending) (w' : World) : Prop := e = .returned (.tuple #[itV l t x, .int .i64 (itE l t x)]) ∧ Below w.heap.size w w'
theorem ItemOut.mk' {l : List Tg} {t x z : Int} {v : Value} {w w' : World} (h : itE l t x = z ∧ itV l t x = v) (hb : Below w.heap.size w w') : ItemOut l t x w (.returned (.tuple #[v, .int .i64 z])) w' := by
  obtain ⟨rfl, rfl⟩ := h; exact ⟨rfl, hb⟩

def weightOk (x : Int) : Bool := decide (1 ≤ x ∧ x ≤ 9223372036854775808)
theorem weightOk_yes {t : Int} (h : ¬ (t < 1 ∨ 9223372036854775808 < t)) : weightOk t = true := decide_eq_true (by omega)
theorem weightOk_no {t : Int} (h : t < 1 ∨ 9223372036854775808 < t) : weightOk t = false := decide_eq_false (by omega)
def verd (e : Int) : Int := if e = 0 then 0 else if e = 4 then 2 else 1
end Go.Proofs.Ytfihaonpifoekaa
