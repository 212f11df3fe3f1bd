/- The program's lists of string values in memory: the box, the row of places, the row of words. Conditions: none beyond those typed. -/
import Derived.Test.YtfbddcbbkfklnaaDoorLmath
import Derived.Test.YtfbddcbbkfklnaaDoorLtz
import Derived.Test.YtfbddcbbkfklnaaDoorKu64
import Derived.Test.YtfbddcbbkfklnaaDoorDprog
import Derived.Laws.OwnMore
namespace Go.Proofs.YtfbddcbbkfklnaaDoor
open Go.ChangeShapes Go.WideShapes Go.ChangeAt Go.RowKit
set_option linter.unusedVariables false
set_option linter.unusedSimpArgs false
set_option maxRecDepth 100000

def nEs (r : Pn ByteArray) : List Value := [.int .i64 r.1, .int .i64 r.2.1, (fun z : ByteArray => Value.string z) r.2.2]
/-- Places. -/
def kNs : Kind (Pn ByteArray) where
  ty := 64
  sl := 65
  k := 3
  by_ := 32
  zero := .agg #[.int .i64 0, .int .i64 0, .string ⟨#[]⟩]
  enc := nEs
  pos := by omega
  len := fun _ => rfl
  one := fun a u hu => by simp [nEs] at hu; rcases hu with rfl | rfl | rfl <;> rfl
  under := Tryd.underlying65
  info := by kernel_rfl
  zk := rfl
  small := by omega
/-- A list of the program: its box, its N places, its words; u nodes. -/
structure Lxs (col : Col) (k : Nat) (w : World) (g n u : Nat) (P : List (Pn ByteArray)) (b N c : Nat) (U : List Nat) (Au : Option Addr) (nu cu : Nat) : Prop where
  box : BoxC col w g k #[.int .i64 n, .int .i64 u, .slice (some ⟨b, 0, none⟩) N c, .slice Au nu cu] 67
  row : OwnKc kNs col w (k + 1) (.slice (some ⟨b, 0, none⟩) N c) P
  wds : OwnKc kU col w (k + 2) (.slice Au nu cu) (U.map fun z : Nat => (z : Int))
  tab : TbC col w
  k1 : 1 ≤ k
section
variable {P' : Nat → Prop} {col col' : Col} {w w' : World} {k g n u b N c nu cu : Nat} {Au : Option Addr} {P : List (Pn ByteArray)} {U : List Nat} {i : Nat} {r : Pn ByteArray}
theorem Lxs.keep (h : Lxs col k w g n u P b N c U Au nu cu) (hs : StepC P' col w col' w') (hp : ∀ c, Rng k c → ¬ P' c) (h0 : ¬ P' 0) : Lxs col' k w' g n u P b N c U Au nu cu :=
  ⟨h.box.keep hs (hp _ ⟨Nat.le_refl _, by omega⟩), h.row.keep hs (hp _ ⟨by omega, by omega⟩), h.wds.keep hs (hp _ ⟨by omega, by omega⟩), h.tab.keep hs h0, h.k1⟩
theorem Lxs.below (h : Lxs col k w g n u P b N c U Au nu cu) (ht : Tidy col w) (hb : Below w.heap.size w w') : Lxs col k w' g n u P b N c U Au nu cu := h.keep (P' := fun _ => False) (StepC.below ht hb) (fun _ _ h => h) (fun h => h)
theorem Lxs.drewN (h : Lxs col k w g n u P b N c U Au nu cu) (ht : Tidy col w) (j : Nat) : Lxs col k (w.drewN j) g n u P b N c U Au nu cu := h.below ht (below_drewN (Below.refl _ _) j)
theorem Lxs.len (h : Lxs col k w g n u P b N c U Au nu cu) : P.length = N := h.row.own.len
theorem Lxs.lenU (h : Lxs col k w g n u P b N c U Au nu cu) : U.length = nu := by have := h.wds.own.len; simpa using this
theorem Lxs.c0 (h : Lxs col k w g n u P b N c U Au nu cu) : w.cell? ⟨g, 0, none⟩ = some (.int .i64 n) := h.box.cell 0 rfl
theorem Lxs.c1 (h : Lxs col k w g n u P b N c U Au nu cu) : w.cell? ⟨g, 1, none⟩ = some (.int .i64 u) := h.box.cell 1 rfl
theorem Lxs.c2 (h : Lxs col k w g n u P b N c U Au nu cu) : w.cell? ⟨g, 2, none⟩ = some (.slice (some ⟨b, 0, none⟩) N c) := h.box.cell 2 rfl
theorem Lxs.c3 (h : Lxs col k w g n u P b N c U Au nu cu) : w.cell? ⟨g, 3, none⟩ = some (.slice Au nu cu) := h.box.cell 3 rfl
theorem Lxs.cap (h : Lxs col k w g n u P b N c U Au nu cu) : N ≤ c ∧ c ≤ 9223372036854775807 := ⟨h.row.own.reads.cap, h.row.own.reads.max⟩
theorem Lxs.capU (h : Lxs col k w g n u P b N c U Au nu cu) : nu ≤ cu ∧ cu ≤ 9223372036854775807 := ⟨h.wds.own.reads.cap, h.wds.own.reads.max⟩
theorem Lxs.at_ (h : Lxs col k w g n u P b N c U Au nu cu) (hr : P[i]? = some r) :
    w.cell? ⟨b, i * 3, none⟩ = some (.int .i64 r.1) ∧ w.cell? ⟨b, i * 3 + 1, none⟩ = some (.int .i64 r.2.1) ∧ w.cell? ⟨b, i * 3 + 2, none⟩ = some ((fun z : ByteArray => Value.string z) r.2.2) ∧ ∀ z, w.frozen? ⟨b, z, none⟩ = false :=
  ⟨h.row.own.cell hr (i := 0) rfl, h.row.own.cell hr (i := 1) rfl, h.row.own.cell hr (i := 2) rfl, fun z => h.row.own.free z⟩
theorem Lxs.word (h : Lxs col k w g n u P b N c U Au nu cu) (hi : i < nu) : ∃ bu, Au = some ⟨bu, 0, none⟩ ∧ w.cell? ⟨bu, i, none⟩ = some (.int .u64 (U.getD i 0 : Nat)) ∧ ∀ z, w.frozen? ⟨bu, z, none⟩ = false := by
  obtain ⟨bu, rfl, _⟩ := h.wds.own.head (by omega)
  have hU := h.lenU
  have h1 : (U.map fun z : Nat => (z : Int))[i]? = some ((U.getD i 0 : Nat) : Int) := by
    rw [List.getElem?_map, List.getD_eq_getElem?_getD, List.getElem?_eq_getElem (show i < U.length by omega)]; rfl
  have h2 := h.wds.own.cell h1 (i := 0) rfl
  rw [show kU.k = 1 from rfl, Nat.mul_one, Nat.add_zero] at h2
  exact ⟨bu, rfl, h2, fun z => h.wds.own.free z⟩
/-- A cell of a place is written. -/
theorem Lxs.put (h : Lxs col k w g n u P b N c U Au nu cu) (ht : Tidy col w) (hr : P[i]? = some r) {j : Nat} {v : Value} {r' : Pn ByteArray} (hj : j < 3) (he : nEs r' = (nEs r).set j v) :
    Lxs col k (w.setCell ⟨b, i * 3 + j, none⟩ v) g n u (P.set i r') b N c U Au nu cu ∧ StepC (fun d => d = k + 1) col w col (w.setCell ⟨b, i * 3 + j, none⟩ v) := by
  have s1 : StepC (fun d => d = k + 1) col w col (w.setCell ⟨b, i * 3 + j, none⟩ v) := StepC.set ht h.row.col.of _
  have h1 := h.row.set (j := i) (i := j) (a' := r') (u := v) hr (by show j < 3; omega) he
  exact ⟨⟨h.box.keep s1 (by omega), h1, h.wds.keep s1 (by omega), h.tab.keep s1 (by omega), h.k1⟩, s1⟩
/-- A word is written. -/
theorem Lxs.putU {bu : Nat} (h : Lxs col k w g n u P b N c U (some ⟨bu, 0, none⟩) nu cu) (ht : Tidy col w) (hi : i < nu) (y : Nat) :
    Lxs col k (w.setCell ⟨bu, i, none⟩ (.int .u64 (y : Int))) g n u P b N c (U.set i y) (some ⟨bu, 0, none⟩) nu cu ∧ StepC (fun d => d = k + 2) col w col (w.setCell ⟨bu, i, none⟩ (.int .u64 (y : Int))) := by
  have hU := h.lenU
  have s1 : StepC (fun d => d = k + 2) col w col (w.setCell ⟨bu, i, none⟩ (.int .u64 (y : Int))) := StepC.set ht h.wds.col.of _
  have h0 : (U.map fun z : Nat => (z : Int))[i]? = some ((U.getD i 0 : Nat) : Int) := by
    rw [List.getElem?_map, List.getD_eq_getElem?_getD, List.getElem?_eq_getElem (show i < U.length by omega)]; rfl
  have h1 := h.wds.set (j := i) (i := 0) (a' := (y : Int)) (u := .int .u64 (y : Int)) h0 (by show 0 < 1; omega) rfl
  rw [show kU.k = 1 from rfl, Nat.mul_one, Nat.add_zero, show (U.map fun z : Nat => (z : Int)).set i (y : Int) = (U.set i y).map fun z : Nat => (z : Int) by rw [List.map_set]] at h1
  exact ⟨⟨h.box.keep s1 (by omega), h.row.keep s1 (by omega), h1, h.tab.keep s1 (by omega), h.k1⟩, s1⟩
/-- The number of nodes is written. -/
theorem Lxs.cnt (h : Lxs col k w g n u P b N c U Au nu cu) (ht : Tidy col w) (u' : Nat) :
    Lxs col k (w.setCell ⟨g, 1, none⟩ (.int .i64 u')) g n u' P b N c U Au nu cu ∧ StepC (fun d => d = k) col w col (w.setCell ⟨g, 1, none⟩ (.int .i64 u')) := by
  have s1 : StepC (fun d => d = k) col w col (w.setCell ⟨g, 1, none⟩ (.int .i64 u')) := StepC.set ht h.box.col _
  have h0 := h.k1
  exact ⟨⟨h.box.put 1 (.int .i64 u'), h.row.keep s1 (by omega), h.wds.keep s1 (by omega), h.tab.keep s1 (by omega), h.k1⟩, s1⟩
/-- The program's list m lies in block g. -/
def PLs : RepL ByteArray := fun col k w g m => ∃ (P : List (Pn ByteArray)) (b N c : Nat) (U : List Nat) (Au : Option Addr) (nu cu : Nat), Lxs col k w g m.n m.l.length P b N c U Au nu cu ∧ Rp m P U
variable {m : CSt ByteArray}
theorem PLs.keep (h : PLs col k w g m) (hs : StepC P' col w col' w') (hp : ∀ c, Rng k c → ¬ P' c) (h0 : ¬ P' 0) : PLs col' k w' g m := by
  obtain ⟨P, b, N, c, U, Au, nu, cu, M, R⟩ := h
  exact ⟨P, b, N, c, U, Au, nu, cu, M.keep hs hp h0, R⟩
theorem PLs.below (h : PLs col k w g m) (ht : Tidy col w) (hb : Below w.heap.size w w') : PLs col k w' g m := h.keep (P' := fun _ => False) (StepC.below ht hb) (fun _ _ h => h) (fun h => h)
end
end Go.Proofs.YtfbddcbbkfklnaaDoor
