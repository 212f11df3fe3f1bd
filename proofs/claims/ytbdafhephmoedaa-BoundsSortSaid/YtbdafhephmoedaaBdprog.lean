/- All that the statements use of the program's bounds, as a structure of contracts. Conditions: none beyond those typed. -/
import Derived.Test.YtbdafhephmoedaaBdtwin
import Derived.Test.YtbdafhephmoedaaLntwin
namespace Go.Proofs.Ytbdafhephmoedaa
open Go.ChangeShapes Go.WideShapes Go.ChangeAt Go.RowKit
set_option linter.unusedVariables false
set_option linter.unusedSimpArgs false

/-- Bounds of 64 bits. -/
abbrev WD (b : Int × Int) : Prop := W64 b.1 ∧ W64 b.2
structure ProgBd : Prop where
  of : ∀ (e : En) (w : World), W64 e.2.1 → W64 e.2.2 → Calls Try.prog 7 #[.agg (VE e)] w fun r w' => r = .returned (.agg (VD (ofD e))) ∧ Below w.heap.size w w'
  add : ∀ (a b : Int × Int) (w : World), WD a → WD b → Calls Try.prog 9 #[.agg (VD a), .agg (VD b)] w fun r w' => r = .returned (.agg (VD (adD a b))) ∧ Below w.heap.size w w'
  cap : ∀ (b : Int × Int) (m : Int) (w : World), WD b → W64 m → Calls Try.prog 11 #[.agg (VD b), .int .u64 m] w fun r w' => r = .returned (.agg (VD (cpD b m))) ∧ Below w.heap.size w w'
  has : ∀ (b : Int × Int) (n : Int) (w : World), WD b → W64 n → Calls Try.prog 13 #[.agg (VD b), .int .u64 n] w fun r w' => r = .returned (.bool (inD b n)) ∧ Below w.heap.size w w'
structure ProgBf : Prop where
  before : ∀ (p q : En) (w : World), Calls Try.prog 21 #[.agg (VL p), .agg (VL q)] w fun r w' => r = .returned (.bool (lnB p q)) ∧ Below w.heap.size w w'
structure ProgSt : Prop where
  sort : ∀ {w : World} {A : Option Addr} {n c : Nat} {L : List En}, RdG kLn w A n c L → n ≤ 1000 → Calls Try.prog 19 #[.slice A n c] w (SrtOut w n L)
theorem fields_bD : Try.prog.underlying 26 = some (.struct (Try.prog.fieldsOf 26)) := by
  unfold Program.fieldsOf; rw [Try.underlying26]
theorem eqIn_bD (t t' x x' : Int) (w : World) : (Op.equalIn 10000 26 (.agg #[.int .u64 t, .int .u64 x]) (.agg #[.int .u64 t', .int .u64 x'])).run Try.prog w = .ok (decide ((t, x) = (t', x'))) w := by
  have h7 := fun w => Try.isAgg22 w
  rw [run_equalIn_agg w 9999 _ _ _ fields_bD (by kernel_rfl)]
  unfold Program.fieldsOf
  rw [Try.underlying26]
  simp [Op.eqFields, part, h7]
  simp [Result.andThen, run_equalIn_int]
  by_cases ht : t = t'
  · by_cases hx : x = x' <;> simp [ht, hx]
  · simp [ht]
/-- A row of lines that a literal makes. -/
theorem RdG.litL (w : World) (l : List En) {cs : Array Value} (hc : cs.toList = cellsK kLn l) (hn : l.length ≤ maxLen) : RdG kLn (w.alloc (.cells cs 43)) (some ⟨w.heap.size, 0, none⟩) l.length l.length l := by
  refine ⟨rfl, Nat.le_refl _, hn, fun j a ha => ⟨w.heap.size, 0, rfl, fun i u hu => ?_⟩⟩
  have hi : i < kLn.k := by rw [← kLn.len a]; exact (List.getElem?_eq_some_iff.1 hu).1
  have h1 := cellsK_at (K := kLn) ha hi
  rw [hu, ← hc] at h1
  rw [World.cell?_alloc_at _ _ _ _ rfl]
  have : (0 + j * kLn.k + i) = j * kLn.k + i := by omega
  rw [this]
  simpa using h1
end Go.Proofs.Ytbdafhephmoedaa
