/- What the statements use of the program's arena, as one structure of contracts (PA col k w g x: the program's arena x lies in block g, in the colours from k on); what a statement's walk carries. Conditions: none beyond those typed. -/
import Derived.Test.YtenchaifnfgijaaAs
import Derived.Test.YtenchaifnfgijaaAmade
namespace Go.Proofs.Ytenchaifnfgijaa
open Go.ChangeShapes Go.WideShapes Go.ChangeAt Go.RowKit
set_option linter.unusedVariables false
set_option linter.unusedSimpArgs false
set_option maxRecDepth 100000

abbrev Rep := Col → Nat → World → Nat → ASt → Prop
def DidP (PA : Rep) (col : Col) (k : Nat) (w : World) (g : Nat) (x : ASt) (w' : World) : Prop := ∃ col', PA col' k w' g x ∧ StepC (Rng k) col w col' w'
def NewP (PA : Rep) (col : Col) (k : Nat) (w : World) (L : List (Int × Int)) (e : Ending) (w' : World) : Prop :=
  (clsE L = 0 ∧ ∃ g, e = .returned (.tuple #[.pointer (some ⟨g, 0, none⟩), .int .i64 0]) ∧ DidP PA col k w g (newA L) w') ∨ (clsE L ≠ 0 ∧ e = .returned (.tuple #[.pointer none, .int .i64 (clsE L)]) ∧ Below w.heap.size w w')
/-- Numbers of 64 bits. -/
def I64 (z : Int) : Prop := -9223372036854775808 ≤ z ∧ z ≤ 9223372036854775807
def Hd64 (h : Hd) : Prop := I64 h.1 ∧ I64 h.2.1 ∧ I64 h.2.2
def hdV (h : Hd) : Value := .agg #[.int .i64 h.1, .int .i64 h.2.1, .int .i64 h.2.2]
structure ProgA (PA : Rep) : Prop where
  keep : ∀ {P : Nat → Prop} {col col' : Col} {w w' : World} {k g : Nat} {x : ASt}, PA col k w g x → StepC P col w col' w' → (∀ c, Rng k c → ¬ P c) → ¬ P 0 → PA col' k w' g x
  good : ∀ {col : Col} {w : World} {k g : Nat} {x : ASt}, PA col k w g x → GoodA x
  check : ∀ {w : World} {A : Option Addr} {n c : Nat} {L : List (Int × Int)}, RdG kC w A n c L → n ≤ 1000000 → (∀ x ∈ L, I64 x.1 ∧ I64 x.2) → Calls Try.prog 30 #[.slice A n c] w fun e w' => e = .returned (.int .i64 (clsE L)) ∧ Below w.heap.size w w'
  new : ∀ {col : Col} {k : Nat} {w : World} {A : Option Addr} {n c : Nat} {L : List (Int × Int)}, Tidy col w → 1 ≤ k → RdG kC w A n c L → n ≤ 1000000 → (∀ x ∈ L, I64 x.1 ∧ I64 x.2) → Calls Try.prog 9 #[.slice A n c] w (NewP PA col k w L)
  fit : ∀ {col : Col} {k g : Nat} {w : World} {x : ASt}, PA col k w g x → Tidy col w → ∀ z, I64 z → Calls Try.prog 49 #[.pointer (some ⟨g, 0, none⟩), .int .i64 z] w fun e w' => e = .returned (.tuple #[.int .i64 (fitR (fitP x.L z)).1, .int .i64 (fitR (fitP x.L z)).2]) ∧ Below w.heap.size w w'
  alloc : ∀ {col : Col} {k g : Nat} {w : World} {x : ASt}, PA col k w g x → Tidy col w → x.t ≤ 1000000000 → ∀ z, I64 z → Calls Try.prog 40 #[.pointer (some ⟨g, 0, none⟩), .int .i64 z] w fun e w' => e = .returned (.tuple #[.agg #[.int .i64 (x.alloc z).1.1.1, .int .i64 (x.alloc z).1.1.2.1, .int .i64 (x.alloc z).1.1.2.2], .int .i64 (x.alloc z).1.2]) ∧ DidP PA col k w g (x.alloc z).2 w'
  free : ∀ {col : Col} {k g : Nat} {w : World} {x : ASt}, PA col k w g x → Tidy col w → x.t ≤ 1000000000 → ∀ h : Hd, Hd64 h → Calls Try.prog 45 #[.pointer (some ⟨g, 0, none⟩), .agg #[.int .i64 h.1, .int .i64 h.2.1, .int .i64 h.2.2]] w fun e w' => e = .returned (.int .i64 (x.free h).1) ∧ DidP PA col k w g (x.free h).2 w'
  write : ∀ {col : Col} {k g : Nat} {w : World} {x : ASt}, PA col k w g x → Tidy col w → x.t ≤ 1000000000 → ∀ h : Hd, Hd64 h → ∀ {A : Option Addr} {n c : Nat} {b : List Int} {c0 : Nat}, ¬ Rng k c0 → RdX c0 col w A n c b → n ≤ 1000000 → Calls Try.prog 41 #[.pointer (some ⟨g, 0, none⟩), .agg #[.int .i64 h.1, .int .i64 h.2.1, .int .i64 h.2.2], .slice A n c] w fun e w' => e = .returned (.int .i64 (x.write h b).1) ∧ DidP PA col k w g (x.write h b).2 w'
  read : ∀ {col : Col} {k g : Nat} {w : World} {x : ASt}, PA col k w g x → Tidy col w → x.t ≤ 1000000000 → ∀ h : Hd, Hd64 h → Calls Try.prog 34 #[.pointer (some ⟨g, 0, none⟩), .agg #[.int .i64 h.1, .int .i64 h.2.1, .int .i64 h.2.2]] w fun e w' => ∃ A n c, e = .returned (.tuple #[.slice A n c, .int .i64 (x.read h).1.2]) ∧ ∃ col', PA col' k w' g (x.read h).2 ∧ StepC (Rng k) col w col' w' ∧ Rd0 col' w' A n c (x.read h).1.1
  usage : ∀ {col : Col} {k g : Nat} {w : World} {x : ASt}, PA col k w g x → Tidy col w → x.t ≤ 1000000000 → Calls Try.prog 27 #[.pointer (some ⟨g, 0, none⟩)] w fun e w' => ∃ A c, e = .returned (.agg #[.slice A x.L.length c, .int .i64 (bytesN x.L x.s), .int .i64 (x.fa : Int)]) ∧ RdG kI w' A x.L.length c (liveL x.L.length x.s) ∧ Below w.heap.size w w'
  nilAlloc : ∀ (w : World) (z : Int), I64 z → Calls Try.prog 40 #[.pointer none, .int .i64 z] w fun e w' => e = .returned (.tuple #[.agg #[.int .i64 0, .int .i64 0, .int .i64 0], .int .i64 8]) ∧ Below w.heap.size w w'
  nilFree : ∀ (w : World) (h : Hd), Hd64 h → Calls Try.prog 45 #[.pointer none, .agg #[.int .i64 h.1, .int .i64 h.2.1, .int .i64 h.2.2]] w fun e w' => e = .returned (.int .i64 8) ∧ Below w.heap.size w w'
  nilUsage : ∀ (w : World), Calls Try.prog 27 #[.pointer none] w fun e w' => ∃ A c, e = .returned (.agg #[.slice A 0 c, .int .i64 0, .int .i64 0]) ∧ Below w.heap.size w w'

/-- What a statement's walk carries: nothing elder has turned, and its arena. -/
structure AtP (PA : Rep) (w0 : World) (col : Col) (W : World) (k g : Nat) (x : ASt) : Prop where
  since : Since w0 col W
  pa : PA col k W g x
section
variable {PA : Rep} {w0 W W' : World} {col col' : Col} {k g : Nat} {x x' : ASt} {cs : Array Value} {t : TypeId}
theorem AtP.tidy (h : AtP PA w0 col W k g x) : Tidy col W := h.since.tidy
theorem Since.below' (h : Since w0 col W) (hb : Below W.heap.size W W') : Since w0 col W' := h.step (P := fun _ => False) (StepC.below h.tidy hb) (fun h => h)
theorem AtP.below (HP : ProgA PA) (h : AtP PA w0 col W k g x) (hb : Below W.heap.size W W') : AtP PA w0 col W' k g x :=
  ⟨h.since.below' hb, HP.keep (P := fun _ => False) h.pa (StepC.below h.tidy hb) (fun _ _ h => h) (fun h => h)⟩
theorem AtP.alloc (HP : ProgA PA) (h : AtP PA w0 col W k g x) (o : Obj) : AtP PA w0 col (W.alloc o) k g x := h.below HP ((Below.refl _ _).alloc (Nat.le_refl _) o)
theorem rng0 (hk : 1 ≤ k) : ¬ Rng k 0 := fun h => by have := h.1; omega
theorem AtP.did (h : AtP PA w0 col W k g x) (hk : 1 ≤ k) (hd : DidP PA col k W g x' W') : ∃ col', AtP PA w0 col' W' k g x' ∧ StepC (Rng k) col W col' W' := by
  obtain ⟨col', h1, h2⟩ := hd
  exact ⟨col', ⟨h.since.step h2 (rng0 hk), h1⟩, h2⟩
/-- A box of the statement's own, not written again. -/
theorem BoxC.lit (ht : Tidy col W) (cs : Array Value) (t : TypeId) : BoxC col (W.alloc (.cells cs t)) W.heap.size 0 cs t := ⟨heap_alloc_new W _, ht _ (Nat.le_refl _)⟩
theorem AtP.lit (HP : ProgA PA) (h : AtP PA w0 col W k g x) (cs : Array Value) (t : TypeId) : AtP PA w0 col (W.alloc (.cells cs t)) k g x ∧ BoxC col (W.alloc (.cells cs t)) W.heap.size 0 cs t := ⟨h.alloc HP _, BoxC.lit h.tidy cs t⟩
theorem BoxC.below (h : BoxC col W g 0 cs t) (ht : Tidy col W) (hb : Below W.heap.size W W') : BoxC col W' g 0 cs t := h.keep (P := fun _ => False) (StepC.below ht hb) (fun h => h)
theorem BoxC.three {c : Nat} {a b d : Value} (h : BoxC col W g c #[a, b, d] t) : W.cell? ⟨g, 0, none⟩ = some a ∧ W.cell? ⟨g, 1, none⟩ = some b ∧ W.cell? ⟨g, 2, none⟩ = some d := ⟨h.cell 0 rfl, h.cell 1 rfl, h.cell 2 rfl⟩
end
theorem RdG.lit {α : Type} (K : Kind α) (w : World) (l : List α) {cs : Array Value} (hc : cs.toList = cellsK K l) (hn : l.length ≤ maxLen) (t : TypeId) : RdG K (w.alloc (.cells cs t)) (some ⟨w.heap.size, 0, none⟩) l.length l.length l := by
  refine ⟨rfl, Nat.le_refl _, hn, fun j a ha => ⟨_, _, rfl, fun i u hu => ?_⟩⟩
  rw [World.cell?_alloc_at _ _ _ _ rfl]
  have hi : i < K.k := by rw [← K.len a]; exact (List.getElem?_eq_some_iff.1 hu).1
  have := cellsK_at (K := K) ha hi
  rw [← hc] at this
  show cs[0 + j * K.k + i]? = some u
  rw [Nat.zero_add, ← Array.getElem?_toList, this]
  exact hu
theorem arFree' {col : Col} {k g : Nat} {w : World} {x : ASt} (H : RefA col k w g x) (ht : Tidy col w) {h : Hd} (hh : Hd64 h) (hlt : x.t ≤ 1000000000) :
    Calls Try.prog 37 #[.pointer (some ⟨g, 0, none⟩), .agg #[.int .i64 h.1, .int .i64 h.2.1, .int .i64 h.2.2]] w
      fun e w' => e = .returned (.int .i64 (x.free h).1) ∧ Did col k w g (x.free h).2 w' := arFree H ht h hlt
/-- u.Live, u.Bytes, u.Faults. -/
theorem usage_live (A : Option Addr) (n c : Nat) (b f : Int) (w : World) : (Instr.field 56 (.agg #[.slice A n c, .int .i64 b, .int .i64 f]) 0).run Try.prog w = .ok (.slice A n c) w := by kernel_rfl
theorem usage_bytes (A : Option Addr) (n c : Nat) (b f : Int) (w : World) : (Instr.field 56 (.agg #[.slice A n c, .int .i64 b, .int .i64 f]) 1).run Try.prog w = .ok (.int .i64 b) w := by kernel_rfl
theorem usage_faults (A : Option Addr) (n c : Nat) (b f : Int) (w : World) : (Instr.field 56 (.agg #[.slice A n c, .int .i64 b, .int .i64 f]) 2).run Try.prog w = .ok (.int .i64 f) w := by kernel_rfl
theorem good_t {x : ASt} (z : Int) : (x.alloc z).2.t = x.t + 1 := by
  unfold ASt.alloc
  split
  · rfl
  · unfold ASt.take
    split
    · rfl
    · split <;> rfl
theorem free_t (x : ASt) (h : Hd) : (x.free h).2.t = x.t + 1 := by unfold ASt.free; split <;> rfl
theorem write_t (x : ASt) (h : Hd) (b : List Int) : (x.write h b).2.t = x.t + 1 := by
  unfold ASt.write
  split
  · rfl
  · split <;> rfl
theorem read_t (x : ASt) (h : Hd) : (x.read h).2.t = x.t + 1 := by unfold ASt.read; split <;> rfl
end Go.Proofs.Ytenchaifnfgijaa
