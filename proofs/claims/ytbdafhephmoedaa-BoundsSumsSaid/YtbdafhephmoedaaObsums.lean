/- The statements about package bounds: BoundsSums. Conditions: the program's bounds keep their contracts (ProgBd, ProgSt). -/
import Derived.Test.YtbdafhephmoedaaObawake
namespace Go.Proofs.Ytbdafhephmoedaa
open Go.ChangeShapes Go.WideShapes Go.ChangeAt Go.RowKit
set_option linter.unusedVariables false
set_option linter.unusedSimpArgs false
set_option maxRecDepth 100000

/-- Three boxes that nobody writes. -/
structure Bx3D (W : World) (G1 G2 G3 : Nat) (e : En) (a b : Int × Int) : Prop where
  h1 : W.heap[G1]? = some (.cells (VE e) 24 (0, 0))
  h2 : W.heap[G2]? = some (.cells (VD a) 26 (0, 0))
  h3 : W.heap[G3]? = some (.cells (VD b) 26 (0, 0))
theorem Bx3D.cells {W W' : World} {G1 G2 G3 : Nat} {e : En} {a b : Int × Int} (h : Bx3D W G1 G2 G3 e a b) (hb : Below W.heap.size W W') :
    W'.cell? ⟨G1, 0, none⟩ = some (.string e.1) ∧ W'.cell? ⟨G1, 1, none⟩ = some (.int .u64 e.2.1) ∧ W'.cell? ⟨G1, 2, none⟩ = some (.int .u64 e.2.2) ∧ W'.cell? ⟨G2, 0, none⟩ = some (.int .u64 a.1) ∧ W'.cell? ⟨G2, 1, none⟩ = some (.int .u64 a.2) ∧ W'.cell? ⟨G3, 0, none⟩ = some (.int .u64 b.1) ∧ W'.cell? ⟨G3, 1, none⟩ = some (.int .u64 b.2) := by
  have k1 := (hb.block G1 (Array.getElem?_eq_some_iff.1 h.h1).1).trans h.h1
  have k2 := (hb.block G2 (Array.getElem?_eq_some_iff.1 h.h2).1).trans h.h2
  have k3 := (hb.block G3 (Array.getElem?_eq_some_iff.1 h.h3).1).trans h.h3
  exact ⟨by rw [Lib.cell_of_heap k1]; rfl, by rw [Lib.cell_of_heap k1]; rfl, by rw [Lib.cell_of_heap k1]; rfl, by rw [Lib.cell_of_heap k2]; rfl, by rw [Lib.cell_of_heap k2]; rfl, by rw [Lib.cell_of_heap k3]; rfl, by rw [Lib.cell_of_heap k3]; rfl⟩
set_option maxHeartbeats 4000000 in
theorem boundsSums_walk (HB : ProgBd) (HS : ProgSt) (e : En) (a b : Int × Int) (most n : Int) (w : World) (he : Sz e.1 ∧ W64 e.2.1 ∧ W64 e.2.2) (ha : WD a) (hb : WD b) (m0 : 0 ≤ most) (m1 : most ≤ 18446744073709551615) (n0 : 0 ≤ n) (n1 : n ≤ 18446744073709551615) :
    Calls Try.prog 3 #[.agg (VE e), .agg (VD a), .agg (VD b), .int .u64 most, .int .u64 n] w (Yes w) := by
  obtain ⟨s, o, sl⟩ := e
  obtain ⟨a0, a1⟩ := a
  obtain ⟨b0, b1⟩ := b
  have c1 : Below w.heap.size w (w.alloc (.cells (VE (s, o, sl)) 24)) := (Below.refl _ _).alloc (Nat.le_refl _) _
  have c2 := c1.alloc c1.size (.cells (VD (a0, a1)) 26)
  have c3 := c2.alloc c2.size (.cells (VD (b0, b1)) 26)
  have hz1 : (w.alloc (.cells (VE (s, o, sl)) 24)).heap.size = w.heap.size + 1 := by simp
  have hz2 : ((w.alloc (.cells (VE (s, o, sl)) 24)).alloc (.cells (VD (a0, a1)) 26)).heap.size = w.heap.size + 1 + 1 := by simp
  have X1 : BoxC (fun _ => 0) (((w.alloc (.cells (VE (s, o, sl)) 24)).alloc (.cells (VD (a0, a1)) 26)).alloc (.cells (VD (b0, b1)) 26)) w.heap.size 0 (VE (s, o, sl)) 24 := BoxC.keep (P := fun _ => False) (BoxC.keep (P := fun _ => False) ⟨heap_alloc_new w _, rfl⟩ (StepC.alloc (fun _ _ => rfl) _) (fun h => h)) (StepC.alloc (fun _ _ => rfl) _) (fun h => h)
  have X2 : BoxC (fun _ => 0) (((w.alloc (.cells (VE (s, o, sl)) 24)).alloc (.cells (VD (a0, a1)) 26)).alloc (.cells (VD (b0, b1)) 26)) (w.heap.size + 1) 0 (VD (a0, a1)) 26 := by
    rw [← hz1]; exact BoxC.keep (P := fun _ => False) ⟨heap_alloc_new _ _, rfl⟩ (StepC.alloc (fun _ _ => rfl) _) (fun h => h)
  have X3 : BoxC (fun _ => 0) (((w.alloc (.cells (VE (s, o, sl)) 24)).alloc (.cells (VD (a0, a1)) 26)).alloc (.cells (VD (b0, b1)) 26)) (w.heap.size + 1 + 1) 0 (VD (b0, b1)) 26 := by
    rw [← hz2]; exact ⟨heap_alloc_new _ _, rfl⟩
  have hBx : Bx3D (((w.alloc (.cells (VE (s, o, sl)) 24)).alloc (.cells (VD (a0, a1)) 26)).alloc (.cells (VD (b0, b1)) 26)) w.heap.size (w.heap.size + 1) (w.heap.size + 1 + 1) (s, o, sl) (a0, a1) (b0, b1) := ⟨X1.heap, X2.heap, X3.heap⟩
  clear c1 c2 X1 X2 X3 hz1 hz2
  have hO1 := fun W => HB.of (s, o, sl) W he.2.1 he.2.2
  have hO2 := fun W => rofD_any (s, o, sl) W he.2.1 he.2.2
  have hA1 := fun W => HB.add (a0, a1) (b0, b1) W ha hb
  have hA2 := fun W => raddD_any (a0, a1) (b0, b1) W ha.1 ha.2 hb.1 hb.2
  have hC1 := fun W => HB.cap (a0, a1) most W ha ⟨m0, m1⟩
  have hC2 := fun W => rcapD_any (a0, a1) most W
  have hH1 := fun (m : Int) (hm : W64 m) W => HB.has (a0, a1) m W ha hm
  have hH2 := fun W => rinD_any (a0, a1) n W
  have wn : W64 n := ⟨n0, n1⟩
  have wa : W64 a0 := ha.1
  generalize ofD (s, o, sl) = x1 at *
  generalize adD (a0, a1) (b0, b1) = x2 at *
  generalize cpD (a0, a1) most = x3 at *
  have q1 := eqIn_bD x1.1 x1.1 x1.2 x1.2
  have q2 := eqIn_bD x2.1 x2.1 x2.2 x2.2
  have q3 := eqIn_bD x3.1 x3.1 x3.2 x3.2
  rw [decide_eq_true rfl] at q1 q2 q3
  have e1 : (inD (a0, a1) n == inD (a0, a1) n) = true := by simp
  have e2 : (inD (a0, a1) a0 == decide (a0 ≤ a1)) = true := by simp [inD]
  have HX := Lib.hid hBx
  have HC := Lib.hid c3
  go_enter Try.func3, Try.ntmps3
  go_wp2
  generalize hW1 : ((w.alloc (.cells (VE (s, o, sl)) 24)).alloc (.cells (VD (a0, a1)) 26)).alloc (.cells (VD (b0, b1)) 26) = W1 at *
  clear hW1 hBx
  have p0 := HX.out.cells (bdM W1)
  generalize w.heap.size + 1 + 1 = G3 at *
  generalize w.heap.size + 1 = G2 at *
  generalize hg1 : w.heap.size = G1 at *
  have HG := Lib.hid hg1
  clear hg1 c3
  go_region_held3 (fun W => W.cell? ⟨G1, 0, none⟩ = some (.string s) ∧ W.cell? ⟨G1, 1, none⟩ = some (.int .u64 o) ∧ W.cell? ⟨G1, 2, none⟩ = some (.int .u64 sl) ∧ W.cell? ⟨G2, 0, none⟩ = some (.int .u64 a0) ∧ W.cell? ⟨G2, 1, none⟩ = some (.int .u64 a1) ∧ W.cell? ⟨G3, 0, none⟩ = some (.int .u64 b0) ∧ W.cell? ⟨G3, 1, none⟩ = some (.int .u64 b1)) (first | exact HX.out.cells d10 | exact HX.out.cells d9 | exact HX.out.cells d8 | exact HX.out.cells d7 | exact HX.out.cells d6 | exact HX.out.cells d5 | exact HX.out.cells d4 | exact HX.out.cells d3 | exact HX.out.cells d2 | exact HX.out.cells d1 | exact p0) (first
    | (go_at_call 7; refine (hO1 _).mono ?_; rintro e' w2 ⟨rfl, h2⟩; have d1 := below_then (bdM W1) h2)
    | (go_at_call 8; refine (hO2 _).mono ?_; rintro e' w3 ⟨rfl, h3⟩; have d2 := below_then d1 h3)
    | (go_at_call 9; refine (hA1 _).mono ?_; rintro e' w4 ⟨rfl, h4⟩; have d3 := below_then d2 h4)
    | (go_at_call 10; refine (hA2 _).mono ?_; rintro e' w5 ⟨rfl, h5⟩; have d4 := below_then d3 h5)
    | (go_at_call 11; refine (hC1 _).mono ?_; rintro e' w6 ⟨rfl, h6⟩; have d5 := below_then d4 h6)
    | (go_at_call 12; refine (hC2 _).mono ?_; rintro e' w7 ⟨rfl, h7⟩; have d6 := below_then d5 h7)
    | (go_at_call 13; refine (hH1 _ (by assumption) _).mono ?_; rintro e' w8 ⟨rfl, h8⟩; first | have d9 := below_then d8 h8 | have d7 := below_then d6 h8)
    | (go_at_call 14; refine (hH2 _).mono ?_; rintro e' w9 ⟨rfl, h9⟩; have d8 := below_then d7 h9)
    | (go_at_call 15; refine (bawake_any HB HS _).mono ?_; rintro e' w10 ⟨rfl, h10⟩; have d10 := below_then d9 h10))
  all_goals
    have hE := Lib.hid (HC.out.trans (d10.mono (by rw [← HG.out]; exact HC.out.size)))
    rw [← HG.out] at hE
    clear HX HC p0 q1 q2 q3 e1 e2
    go_wp2
    go_ret
    exact ⟨rfl, hE.out⟩
end Go.Proofs.Ytbdafhephmoedaa
