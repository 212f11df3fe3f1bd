/- Lines in memory; a row of lines that is sorted in place: swapping. Conditions: none beyond those typed. -/
import Derived.Test.YtbdafhephmoedaaLnmerge
import Derived.Test.YtbdafhephmoedaaKrow
import Derived.Test.YtbdafhephmoedaaBm
import Derived.Deep.RegionHeld3
import Derived.Deep.WholeRow
namespace Go.Proofs.Ytbdafhephmoedaa
open Go.ChangeShapes Go.WideShapes Go.ChangeAt Go.RowKit
set_option linter.unusedVariables false
set_option linter.unusedSimpArgs false
set_option maxRecDepth 100000

def enL (e : En) : List Value := [.string e.1, .int .u64 e.2.1, .int .u64 e.2.2]
/-- Lines. -/
def kLn : Kind En where
  ty := 43
  sl := 33
  k := 3
  by_ := 32
  zero := .agg #[.string ⟨#[]⟩, .int .u64 0, .int .u64 0]
  enc := enL
  pos := by omega
  len := fun _ => rfl
  one := fun a u hu => by simp [enL] at hu; rcases hu with rfl | rfl | rfl <;> rfl
  under := Try.underlying33
  info := by kernel_rfl
  zk := rfl
  small := by omega
/-- A line as the cells of a box. -/
abbrev VL (e : En) : Array Value := #[.string e.1, .int .u64 e.2.1, .int .u64 e.2.2]
theorem RdG.atLn {w : World} {A : Option Addr} {n c j : Nat} {l : List En} (h : RdG kLn w A n c l) (hj : j < n) :
    ∃ b o e, A = some ⟨b, o, none⟩ ∧ l[j]? = some e ∧ w.cell? ⟨b, o + j * 3, none⟩ = some (.string e.1) ∧ w.cell? ⟨b, o + j * 3 + 1, none⟩ = some (.int .u64 e.2.1) ∧ w.cell? ⟨b, o + j * 3 + 2, none⟩ = some (.int .u64 e.2.2) := by
  obtain ⟨b, o, e, hA, hl, _, _, hc⟩ := h.at_ hj
  exact ⟨b, o, e, hA, hl, hc 0 _ rfl, hc 1 _ rfl, hc 2 _ rfl⟩
theorem OwnK.setL {w : World} {g n c j : Nat} {L : List En} {x : En} (h : OwnK kLn w (.slice (some ⟨g, 0, none⟩) n c) L) (hx : L[j]? = some x) (y : En) :
    OwnK kLn (((w.setCell ⟨g, j * 3, none⟩ (.string y.1)).setCell ⟨g, j * 3 + 1, none⟩ (.int .u64 y.2.1)).setCell ⟨g, j * 3 + 2, none⟩ (.int .u64 y.2.2)) (.slice (some ⟨g, 0, none⟩) n c) (L.set j y) := by
  have hj := (List.getElem?_eq_some_iff.1 hx).1
  have h1 := h.store (i := 0) (a' := (y.1, x.2.1, x.2.2)) (u := .string y.1) hx (by show 0 < 3; omega) rfl
  have h2 := h1.store (j := j) (i := 1) (a := (y.1, x.2.1, x.2.2)) (a' := (y.1, y.2.1, x.2.2)) (u := .int .u64 y.2.1) (by rw [List.getElem?_set_self hj]) (by show 1 < 3; omega) rfl
  have h3 := h2.store (j := j) (i := 2) (a := (y.1, y.2.1, x.2.2)) (a' := y) (u := .int .u64 y.2.2) (by rw [List.set_set, List.getElem?_set_self hj]) (by show 2 < 3; omega) rfl
  rw [List.set_set, List.set_set] at h3
  exact h3
theorem grow_setL {w w' : World} {g : Nat} (h : w.grownBy w' (some g)) (i : Nat) (v : Value) : w.grownBy (w'.setCell ⟨g, i, none⟩ v) (some g) :=
  ⟨h.os, h.tape, h.output, by simpa [World.setCell] using h.size, fun k hk hne => (Below.heap_setCell _ _ _ _ (fun e => hne (by simp [e]))).trans (h.block k hk hne)⟩
theorem grow_belowL {w w' w1 : World} {row : Option Nat} (h : w.grownBy w' row) (hb : Below w'.heap.size w' w1) : w.grownBy w1 row :=
  ⟨hb.os.trans h.os, hb.tape.trans h.tape, hb.output.trans h.output, Nat.le_trans h.size hb.size, fun k hk hne => (hb.block k (Nat.lt_of_lt_of_le hk h.size)).trans (h.block k hk hne)⟩
theorem grow_drewL {w w' : World} {row : Option Nat} (h : w.grownBy w' row) (n : Nat) : w.grownBy (w'.drewN n) row := ⟨h.os, h.tape, h.output, h.size, h.block⟩
/-- A row of lines in block g, which alone has turned. -/
structure RwL (w : World) (g n c : Nat) (L : List En) (W : World) : Prop where
  own : OwnK kLn W (.slice (some ⟨g, 0, none⟩) n c) L
  grown : w.grownBy W (some g)
section
variable {w W W' W'' : World} {g n c j i : Nat} {L L' : List En} {x y : En}
theorem RwL.start (h : OwnK kLn w (.slice (some ⟨g, 0, none⟩) n c) L) : RwL w g n c L w := ⟨h, World.grownBy.refl _ _⟩
theorem RwL.below (h : RwL w g n c L W) (hb : Below W.heap.size W W') : RwL w g n c L W' := ⟨h.own.below hb, grow_belowL h.grown hb⟩
theorem RwL.drewN (h : RwL w g n c L W) (q : Nat) : RwL w g n c L (W.drewN q) := h.below (below_drewN (Below.refl _ _) q)
theorem RwL.then_ (h : RwL w g n c L W) (h' : RwL W g n c L' W') : RwL w g n c L' W' := ⟨h'.own, World.grownBy.trans h.grown h'.grown⟩
theorem RwL.len (h : RwL w g n c L W) : L.length = n := h.own.len
theorem RwL.lt (h : RwL w g n c L W) : g < W.heap.size := h.own.lt g rfl
theorem RwL.free (h : RwL w g n c L W) (q : Nat) : W.frozen? ⟨g, q, none⟩ = false := h.own.free q
theorem RwL.at_ (h : RwL w g n c L W) (hj : j < n) : ∃ x, L[j]? = some x := ⟨_, List.getElem?_eq_getElem (by rw [h.len]; exact hj)⟩
theorem RwL.cells (h : RwL w g n c L W) (hx : L[j]? = some x) : W.cell? ⟨g, j * 3, none⟩ = some (.string x.1) ∧ W.cell? ⟨g, j * 3 + 1, none⟩ = some (.int .u64 x.2.1) ∧ W.cell? ⟨g, j * 3 + 2, none⟩ = some (.int .u64 x.2.2) :=
  ⟨h.own.cell hx (i := 0) rfl, h.own.cell hx (i := 1) rfl, h.own.cell hx (i := 2) rfl⟩
/-- Two lines change places. -/
theorem RwL.swap (h : RwL w g n c L W) (hx : L[i]? = some x) (hy : L[j]? = some y) (hij : i ≠ j) :
    RwL w g n c ((L.set i y).set j x) ((((((W.setCell ⟨g, i * 3, none⟩ (.string y.1)).setCell ⟨g, i * 3 + 1, none⟩ (.int .u64 y.2.1)).setCell ⟨g, i * 3 + 2, none⟩ (.int .u64 y.2.2)).setCell ⟨g, j * 3, none⟩ (.string x.1)).setCell ⟨g, j * 3 + 1, none⟩ (.int .u64 x.2.1)).setCell ⟨g, j * 3 + 2, none⟩ (.int .u64 x.2.2)) := by
  have h1 := h.own.setL hx y
  have h2 := h1.setL (j := j) (x := y) (by rw [List.getElem?_set_ne hij]; exact hy) x
  exact ⟨h2, grow_setL (grow_setL (grow_setL (grow_setL (grow_setL (grow_setL h.grown _ _) _ _) _ _) _ _) _ _) _ _⟩
end
set_option maxHeartbeats 1000000 in
theorem swapRange_any {w : World} {g n c a b m : Nat} {L : List En} {f : Value} (hO : OwnK kLn w (.slice (some ⟨g, 0, none⟩) n c) L) (hab : a + m ≤ b) (hbn : b + m ≤ n) (hn : n ≤ 1000000) :
    Calls Try.prog 41 #[.slice (some ⟨g, 0, none⟩) n c, .int .i64 (a : Int), .int .i64 (b : Int), .int .i64 (m : Int), f] w
      fun e w' => e = .returned (.tuple #[]) ∧ ∃ L', SwR L a b m L' ∧ RwL w g n c L' w' := by
  have H0 := Lib.hid (RwL.start hO)
  clear hO
  go_enter Try.func41, Try.ntmps41
  go_wp2
  go_loopw [10] (fun iv wr => ∃ (i : Nat) (L' : List En), i ≤ m ∧ iv = .int .i64 (i : Int) ∧ SwR L a b i L' ∧ RwL w g n c L' wr) (fun iv _ => m - (intOf iv).toNat)
  case atStart => exact ⟨0, L, Nat.zero_le _, rfl, SwR.start, H0.out⟩
  case round =>
    clear H0
    obtain ⟨i, L', hi, rfl, hS, hR⟩ := hrel
    by_cases hlt : i < m
    · have hiI : (i : Int) < (m : Int) := by omega
      obtain ⟨p, hp⟩ : ∃ p, a + i = p := ⟨_, rfl⟩
      obtain ⟨q, hq⟩ : ∃ q, b + i = q := ⟨_, rfl⟩
      have hwp : IntKind.i64.wrap ((a : Int) + (i : Int)) = (p : Int) := by rw [IntKind.wrap_i64]; omega
      have hwq : IntKind.i64.wrap ((b : Int) + (i : Int)) = (q : Int) := by rw [IntKind.wrap_i64]; omega
      obtain ⟨x, hx⟩ := hR.at_ (j := p) (by omega)
      obtain ⟨y, hy⟩ := hR.at_ (j := q) (by omega)
      obtain ⟨x0, x1, x2⟩ := hR.cells hx
      obtain ⟨y0, y1, y2⟩ := hR.cells hy
      have f0 := hR.free (p * 3)
      have f1 := hR.free (p * 3 + 1)
      have f2 := hR.free (p * 3 + 2)
      have f3 := hR.free (q * 3)
      have f4 := hR.free (q * 3 + 1)
      have f5 := hR.free (q * 3 + 2)
      have hpI : (p : Int) < (n : Int) := by omega
      have hqI : (q : Int) < (n : Int) := by omega
      have HS := Lib.hid (hS.step (by omega) (by rw [hp]; exact hx) (by rw [hq]; exact hy))
      have HR := Lib.hid ((hR.swap hx hy (by omega)).drewN 1)
      rw [hp, hq] at HS
      have hpq : p < q := by omega
      clear hS hR hx hy hp hq
      go_wp2
      go_region
      all_goals
        go_wp2
        go_roundw
        case rel => exact ⟨i + 1, _, by omega, by go_num, HS.out, HR.out⟩
        case measure => (simp [intOf] <;> omega)
    · obtain rfl : i = m := by omega
      have hiI : ¬ (i : Int) < (i : Int) := by omega
      have HE := Lib.hid (And.intro hS hR)
      clear hS hR
      go_wp2
      go_end0
      exact ⟨rfl, _, HE.out.1, HE.out.2⟩
end Go.Proofs.Ytbdafhephmoedaa
