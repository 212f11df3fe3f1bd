/- Deck.Entry. Conditions: none beyond those typed. -/
import Derived.Test.YtjkomnjkolggnaaSvent
import Derived.Test.YtjkomnjkolggnaaKdeck
namespace Go.Proofs.Ytjkomnjkolggnaa
open Go.ChangeShapes Go.WideShapes Go.ChangeAt Go.RowKit
set_option linter.unusedVariables false
set_option linter.unusedSimpArgs false
set_option maxRecDepth 100000

/-- A small entry comes back, and the deck; nothing else has turned. -/
def EntryDk (B : World) (g : Nat) (A : Option Addr) (n c : Nat) (W : World) (e : Ending) (W' : World) : Prop :=
  ∃ x : En, (2 ≤ x.1.size ∧ x.1.size ≤ 3) ∧ (0 ≤ x.2.1 ∧ x.2.1 < 30) ∧ (0 ≤ x.2.2 ∧ x.2.2 < 10) ∧ e = .returned (.agg (VE x)) ∧ Dk B W' g A n c ∧ W.grownBy W' (some g)
theorem grow_pre {w w1 w2 : World} {row : Option Nat} (h : Below w.heap.size w w1) (hg : w1.grownBy w2 row) : w.grownBy w2 row :=
  ⟨hg.os.trans h.os, hg.tape.trans h.tape, hg.output.trans h.output, Nat.le_trans h.size hg.size, fun k hk hr => (hg.block k (Nat.lt_of_lt_of_le hk h.size) hr).trans (h.block k hk)⟩
theorem grow_two {w w1 w2 : World} {row : Option Nat} (h : w.grownBy w1 row) (hg : w1.grownBy w2 row) : w.grownBy w2 row :=
  ⟨hg.os.trans h.os, hg.tape.trans h.tape, hg.output.trans h.output, Nat.le_trans h.size hg.size, fun k hk hr => (hg.block k (Nat.lt_of_lt_of_le hk h.size) hr).trans (h.block k hk hr)⟩
theorem grow_new {w w1 : World} {row : Option Nat} (h : w.grownBy w1 row) {a : Addr} (ha : w.heap.size ≤ a.block) (v : Value) : w.grownBy (w1.setCell a v) row :=
  ⟨h.os, h.tape, h.output, by have := h.size; simpa [World.setCell] using this, fun k hk hr => (Below.heap_setCell _ _ _ _ (by omega)).trans (h.block k hk hr)⟩
set_option maxHeartbeats 1000000 in
theorem entry_dk {B W : World} {g n c : Nat} {A : Option Addr} (h : Dk B W g A n c) : Calls Try.prog 18 #[.pointer (some ⟨g, 0, none⟩)] W (EntryDk B g A n c W) := by
  have b1 : Below W.heap.size W (W.alloc (.cells #[.string ⟨#[]⟩, .int .u64 0, .int .u64 0] 32)) := (Below.refl _ _).alloc (Nat.le_refl _) _
  have h1 := h.below b1
  have X1 : (W.alloc (.cells #[.string ⟨#[]⟩, .int .u64 0, .int .u64 0] 32)).heap[W.heap.size]? = some (.cells (VE zeroE) 32 (0, 0)) := heap_alloc_new W _
  obtain ⟨G, hG⟩ : ∃ G, W.heap.size = G := ⟨_, rfl⟩
  have hgG : g < G := by rw [← hG]; exact h.lt
  have hS := short_dk h1
  obtain ⟨W1, hW1⟩ : ∃ W1, W1 = W.alloc (.cells #[.string ⟨#[]⟩, .int .u64 0, .int .u64 0] 32) := ⟨_, rfl⟩
  rw [← hW1] at hS X1 b1 h1
  rw [hG] at X1
  go_enter Try.func18, Try.ntmps18
  go_wp2_with fail
  rw [← hW1]
  clear hW1
  refine hS.mono ?_
  rintro e w2 ⟨s, hs, rfl, h2, g2⟩
  have X2 : w2.heap[G]? = some (.cells (VE zeroE) 32 (0, 0)) := (g2.block G (Array.getElem?_eq_some_iff.1 X1).1 (by intro e; injection e with e; omega)).trans X1
  have G2 := grow_pre b1 g2
  have hN := next_dk h2 30 (by omega) (by omega)
  clear hS X1 g2 b1 h1 h2
  go_wp2_with fail
  refine hN.mono ?_
  rintro e w3 ⟨r, hr, rfl, h3, g3⟩
  have X3 : w3.heap[G]? = some (.cells (VE zeroE) 32 (0, 0)) := (g3.block G (Array.getElem?_eq_some_iff.1 X2).1 (by intro e; injection e with e; omega)).trans X2
  have G3 := grow_two G2 g3
  have hN2 := next_dk h3 10 (by omega) (by omega)
  have hw1 : IntKind.u64.wrap (r : Int) = (r : Int) := by rw [IntKind.wrap_u64]; omega
  clear hN X2 g3 G2 h3
  go_wp2_with fail
  refine hN2.mono ?_
  rintro e w4 ⟨r2, hr2, rfl, h4, g4⟩
  have X4 : BoxC (fun _ => 0) w4 G 0 (VE zeroE) 32 := ⟨(g4.block G (Array.getElem?_eq_some_iff.1 X3).1 (by intro e; injection e with e; omega)).trans X3, rfl⟩
  have G4 := grow_two G3 g4
  have hw2 : IntKind.u64.wrap (r2 : Int) = (r2 : Int) := by rw [IntKind.wrap_u64]; omega
  have y0 : w4.cell? ⟨G, 0, none⟩ = some (.string ⟨#[]⟩) := X4.cell 0 rfl
  have y1 : w4.cell? ⟨G, 1, none⟩ = some (.int .u64 0) := X4.cell 1 rfl
  have y2 : w4.cell? ⟨G, 2, none⟩ = some (.int .u64 0) := X4.cell 2 rfl
  have f0 := X4.free 0
  have f1 := X4.free 1
  have f2 := X4.free 2
  have HX := Lib.hid (vbox_en X4 (a := zeroE) (s, (r : Int), (r2 : Int))).heap
  have HD := Lib.hid (show Dk B (((w4.setCell ⟨G, 0, none⟩ (.string s)).setCell ⟨G, 1, none⟩ (.int .u64 (r : Int))).setCell ⟨G, 2, none⟩ (.int .u64 (r2 : Int))) g A n c from by
    exact h4.far (row := some G) ⟨rfl, rfl, rfl, by simp [World.setCell], fun k hk hr => by
      have hne : k ≠ G := fun e => hr (by rw [e])
      exact ((Below.heap_setCell _ _ _ _ hne).trans (Below.heap_setCell _ _ _ _ hne)).trans (Below.heap_setCell _ _ _ _ hne)⟩ (fun k e => by injection e with e; omega))
  have HG := Lib.hid (grow_new (a := ⟨G, 2, none⟩) (grow_new (a := ⟨G, 1, none⟩) (grow_new (a := ⟨G, 0, none⟩) G4 (by rw [hG]; exact Nat.le_refl _) (.string s)) (by rw [hG]; exact Nat.le_refl _) (.int .u64 (r : Int))) (by rw [hG]; exact Nat.le_refl _) (.int .u64 (r2 : Int)))
  have HR := Lib.hid (show (2 ≤ s.size ∧ s.size ≤ 3) ∧ (0 ≤ (r : Int) ∧ (r : Int) < 30) ∧ (0 ≤ (r2 : Int) ∧ (r2 : Int) < 10) from ⟨hs, ⟨by omega, hr⟩, by omega, hr2⟩)
  clear hN2 X3 X4 g4 G3 G4 h4 hG
  go_wp2
  refine bodyPost_ret (results_cell_row rfl _ _ G _ _ (0, 0) _ rfl HX.out Try.underlying32 rfl (by kernel_rfl)) rfl ?_
  exact ⟨(s, (r : Int), (r2 : Int)), HR.out.1, HR.out.2.1, HR.out.2.2, rfl, HD.out, HG.out⟩
end Go.Proofs.Ytjkomnjkolggnaa
