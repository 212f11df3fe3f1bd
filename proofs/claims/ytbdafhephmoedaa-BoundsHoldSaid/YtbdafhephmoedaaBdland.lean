/- The program's bounds : all contracts. Conditions: none beyond those typed. -/
import Derived.Test.YtbdafhephmoedaaBdprog
import Derived.Test.YtbdafhephmoedaaLnstab
namespace Go.Proofs.Ytbdafhephmoedaa
open Go.ChangeShapes Go.WideShapes Go.ChangeAt Go.RowKit
set_option linter.unusedVariables false
set_option linter.unusedSimpArgs false
set_option maxRecDepth 100000

theorem bsum_any (a b : Int) (w : World) (h1 : W64 a) (h2 : W64 b) : Calls Try.prog 23 #[.int .u64 a, .int .u64 b] w fun r w' => r = .returned (.int .u64 (addV a b)) ∧ w = w' := by
  have hC := fun W => add_any a b W h1 h2
  obtain ⟨q, hq⟩ : ∃ q, addV a b = q := ⟨_, rfl⟩
  rw [hq] at hC ⊢
  clear hq h1 h2
  go_enter Try.func23, Try.ntmps23
  go_wp2_with fail
  refine (hC _).mono ?_
  rintro e w2 ⟨rfl, hw⟩
  subst hw
  go_wp2
  go_ret
  exact ⟨rfl, rfl⟩
set_option maxHeartbeats 1000000 in
theorem bOf_any (e : En) (w : World) (h1 : W64 e.2.1) (h2 : W64 e.2.2) :
    Calls Try.prog 7 #[.agg (VE e)] w fun r w' => r = .returned (.agg (VD (ofD e))) ∧ Below w.heap.size w w' := by
  obtain ⟨s, o, sl⟩ := e
  have hC := fun W => bsum_any o sl W h1 h2
  obtain ⟨q, hq⟩ : ∃ q, addV o sl = q := ⟨_, rfl⟩
  show Calls _ _ _ _ fun r w' => r = .returned (.agg (VD (o, addV o sl))) ∧ Below w.heap.size w w'
  rw [hq] at hC ⊢
  have b0 : Below w.heap.size w (w.alloc (.cells (VE (s, o, sl)) 24)) := (Below.refl _ _).alloc (Nat.le_refl _) _
  have hz : (w.alloc (.cells (VE (s, o, sl)) 24)).heap.size = w.heap.size + 1 := by simp
  have X1 : BoxC (fun _ => 0) ((w.alloc (.cells (VE (s, o, sl)) 24)).alloc (.cells (VD (0, 0)) 26)) w.heap.size 0 (VE (s, o, sl)) 24 := BoxC.keep (P := fun _ => False) ⟨heap_alloc_new w _, rfl⟩ (StepC.alloc (fun _ _ => rfl) _) (fun h => h)
  have X2 : BoxC (fun _ => 0) ((w.alloc (.cells (VE (s, o, sl)) 24)).alloc (.cells (VD (0, 0)) 26)) (w.heap.size + 1) 0 (VD (0, 0)) 26 := by
    rw [← hz]; exact ⟨heap_alloc_new _ _, rfl⟩
  have b1 := b0.alloc b0.size (.cells (VD (0, 0)) 26)
  obtain ⟨W1, hW1⟩ : ∃ W, (w.alloc (.cells (VE (s, o, sl)) 24)).alloc (.cells (VD (0, 0)) 26) = W := ⟨_, rfl⟩
  obtain ⟨G1, hG1⟩ : ∃ G, w.heap.size = G := ⟨_, rfl⟩
  obtain ⟨G2, hG2⟩ : ∃ G, w.heap.size + 1 = G := ⟨_, rfl⟩
  rw [hW1] at X1 X2 b1
  rw [hG1] at X1
  rw [hG2] at X2
  have hR := ResD.make (w := w) (W1 := W1.drew) o q ⟨X2.heap, rfl⟩ b1.drew (by omega)
  have y1 : W1.drew.cell? ⟨G1, 1, none⟩ = some (.int .u64 o) := X1.cell 1 rfl
  have y2 : W1.drew.cell? ⟨G1, 2, none⟩ = some (.int .u64 sl) := X1.cell 2 rfl
  have q1 := (hR.far G1 1 (by omega)).trans y1
  have q2 := (hR.far G1 2 (by omega)).trans y2
  have z0a : W1.cell? ⟨G2, 0, none⟩ = some (.int .u64 0) := X2.cell 0 rfl
  have z1a : W1.cell? ⟨G2, 1, none⟩ = some (.int .u64 0) := X2.cell 1 rfl
  have f0a : W1.frozen? ⟨G2, 0, none⟩ = false := X2.free 0
  have f1a : W1.frozen? ⟨G2, 1, none⟩ = false := X2.free 1
  have z0 := hR.z0
  have z1 := hR.z1
  have f0 := hR.f0
  have f1 := hR.f1
  have hne : G1 ≠ G2 := by omega
  have HX := Lib.hid hR
  have HQ := Lib.hid (And.intro q1 q2)
  have HW := Lib.hid (And.intro hW1 (And.intro hG2 hG1))
  clear hq b0 hz X1 X2 b1 hW1 hG1 hG2 hR q1 q2
  go_enter Try.func7, Try.ntmps7
  go_wp2
  rw [HW.out.1, HW.out.2.1, HW.out.2.2]
  go_region_held3 (fun W => W.cell? ⟨G1, 1, none⟩ = some (.int .u64 o) ∧ W.cell? ⟨G1, 2, none⟩ = some (.int .u64 sl)) (first | exact ⟨y1, y2⟩ | exact HQ.out) ((go_at_call 23; refine (hC _).mono ?_; rintro e' w5 ⟨rfl, hw5⟩; subst hw5))
  clear y1 y2 z0 z1 f0 f1 z0a z1a f0a f1a hC HQ HW
  go_wp2
  refine bodyPost_ret (results_cell_row rfl _ _ G2 _ _ (0, 0) _ rfl HX.out.heap Try.underlying26 rfl (by kernel_rfl)) rfl ?_
  exact ⟨rfl, HX.out.below⟩
set_option maxHeartbeats 1000000 in
theorem bAdd_any (a b : Int × Int) (w : World) (ha : WD a) (hb : WD b) :
    Calls Try.prog 9 #[.agg (VD a), .agg (VD b)] w fun r w' => r = .returned (.agg (VD (adD a b))) ∧ Below w.heap.size w w' := by
  obtain ⟨a0, a1⟩ := a
  obtain ⟨b0, b1⟩ := b
  have h1' : W64 a0 := ha.1
  have h2' : W64 a1 := ha.2
  have h3' : W64 b0 := hb.1
  have h4' : W64 b1 := hb.2
  show Calls _ _ _ _ fun r w' => r = .returned (.agg (VD (addV a0 b0, addV a1 b1))) ∧ Below w.heap.size w w'
  have hz1 : (w.alloc (.cells (VD (a0, a1)) 26)).heap.size = w.heap.size + 1 := by simp
  have hz2 : ((w.alloc (.cells (VD (a0, a1)) 26)).alloc (.cells (VD (b0, b1)) 26)).heap.size = w.heap.size + 1 + 1 := by simp
  have c1 : Below w.heap.size w (w.alloc (.cells (VD (a0, a1)) 26)) := (Below.refl _ _).alloc (Nat.le_refl _) _
  have c2 := c1.alloc c1.size (.cells (VD (b0, b1)) 26)
  have c3 := c2.alloc c2.size (.cells (VD (0, 0)) 26)
  have X1 : BoxC (fun _ => 0) (((w.alloc (.cells (VD (a0, a1)) 26)).alloc (.cells (VD (b0, b1)) 26)).alloc (.cells (VD (0, 0)) 26)) w.heap.size 0 (VD (a0, a1)) 26 := BoxC.keep (P := fun _ => False) (BoxC.keep (P := fun _ => False) ⟨heap_alloc_new w _, rfl⟩ (StepC.alloc (fun _ _ => rfl) _) (fun h => h)) (StepC.alloc (fun _ _ => rfl) _) (fun h => h)
  have X2 : BoxC (fun _ => 0) (((w.alloc (.cells (VD (a0, a1)) 26)).alloc (.cells (VD (b0, b1)) 26)).alloc (.cells (VD (0, 0)) 26)) (w.heap.size + 1) 0 (VD (b0, b1)) 26 := by
    rw [← hz1]; exact BoxC.keep (P := fun _ => False) ⟨heap_alloc_new _ _, rfl⟩ (StepC.alloc (fun _ _ => rfl) _) (fun h => h)
  have X3 : BoxC (fun _ => 0) (((w.alloc (.cells (VD (a0, a1)) 26)).alloc (.cells (VD (b0, b1)) 26)).alloc (.cells (VD (0, 0)) 26)) (w.heap.size + 1 + 1) 0 (VD (0, 0)) 26 := by
    rw [← hz2]; exact ⟨heap_alloc_new _ _, rfl⟩
  obtain ⟨W1, hW1⟩ : ∃ W, ((w.alloc (.cells (VD (a0, a1)) 26)).alloc (.cells (VD (b0, b1)) 26)).alloc (.cells (VD (0, 0)) 26) = W := ⟨_, rfl⟩
  obtain ⟨G1, hG1⟩ : ∃ G, w.heap.size = G := ⟨_, rfl⟩
  obtain ⟨G2, hG2⟩ : ∃ G, w.heap.size + 1 = G := ⟨_, rfl⟩
  obtain ⟨G3, hG3⟩ : ∃ G, w.heap.size + 1 + 1 = G := ⟨_, rfl⟩
  rw [hW1] at X1 X2 X3 c3
  rw [hG1] at X1
  rw [hG2] at X2
  rw [hG3] at X3
  have hR := ResD.make (w := w) (W1 := W1.drew) (addV a0 b0) (addV a1 b1) ⟨X3.heap, rfl⟩ c3.drew (by omega)
  have y0 : W1.drew.cell? ⟨G1, 0, none⟩ = some (.int .u64 a0) := X1.cell 0 rfl
  have y1 : W1.drew.cell? ⟨G1, 1, none⟩ = some (.int .u64 a1) := X1.cell 1 rfl
  have v0 : W1.drew.cell? ⟨G2, 0, none⟩ = some (.int .u64 b0) := X2.cell 0 rfl
  have v1 : W1.drew.cell? ⟨G2, 1, none⟩ = some (.int .u64 b1) := X2.cell 1 rfl
  have q0 := (hR.far G1 0 (by omega)).trans y0
  have q1 := (hR.far G1 1 (by omega)).trans y1
  have q2 := (hR.far G2 0 (by omega)).trans v0
  have q3 := (hR.far G2 1 (by omega)).trans v1
  have z0a : W1.cell? ⟨G3, 0, none⟩ = some (.int .u64 0) := X3.cell 0 rfl
  have z1a : W1.cell? ⟨G3, 1, none⟩ = some (.int .u64 0) := X3.cell 1 rfl
  have f0a : W1.frozen? ⟨G3, 0, none⟩ = false := X3.free 0
  have f1a : W1.frozen? ⟨G3, 1, none⟩ = false := X3.free 1
  have z0 := hR.z0
  have z1 := hR.z1
  have f0 := hR.f0
  have f1 := hR.f1
  have hne : G1 ≠ G3 := by omega
  have hne2 : G2 ≠ G3 := by omega
  have HX := Lib.hid hR
  have HQ := Lib.hid (And.intro q0 (And.intro q1 (And.intro q2 q3)))
  have HW := Lib.hid (And.intro hW1 (And.intro hG3 (And.intro hG2 hG1)))
  clear ha hb c1 c2 c3 hz1 hz2 X1 X2 X3 hW1 hG1 hG2 hG3 hR q0 q1 q2 q3
  go_enter Try.func9, Try.ntmps9
  go_wp2
  rw [HW.out.1]
  (try rw [HW.out.2.1])
  (try rw [HW.out.2.2.1])
  (try rw [HW.out.2.2.2])
  go_region_held3 (fun W => W.cell? ⟨G1, 0, none⟩ = some (.int .u64 a0) ∧ W.cell? ⟨G1, 1, none⟩ = some (.int .u64 a1) ∧ W.cell? ⟨G2, 0, none⟩ = some (.int .u64 b0) ∧ W.cell? ⟨G2, 1, none⟩ = some (.int .u64 b1)) (first | exact ⟨y0, y1, v0, v1⟩ | exact HQ.out) ((go_at_call 23; refine (bsum_any _ _ _ (by assumption) (by assumption)).mono ?_; rintro e' w5 ⟨rfl, hw5⟩; subst hw5))
  all_goals
    clear y0 y1 v0 v1 z0 z1 f0 f1 z0a z1a f0a f1a HQ HW
    go_wp2
    refine bodyPost_ret (results_cell_row rfl _ _ G3 _ _ (0, 0) _ rfl HX.out.heap Try.underlying26 rfl (by kernel_rfl)) rfl ?_
    exact ⟨rfl, HX.out.below⟩
set_option maxHeartbeats 1000000 in
theorem bCap_any (b : Int × Int) (m : Int) (w : World) :
    Calls Try.prog 11 #[.agg (VD b), .int .u64 m] w fun r w' => r = .returned (.agg (VD (cpD b m))) ∧ Below w.heap.size w w' := by
  obtain ⟨b0, b1⟩ := b
  obtain ⟨p, hp⟩ : ∃ q, min b0 m = q := ⟨_, rfl⟩
  obtain ⟨q, hq⟩ : ∃ q, min b1 m = q := ⟨_, rfl⟩
  show Calls _ _ _ _ fun r w' => r = .returned (.agg (VD (min b0 m, min b1 m))) ∧ Below w.heap.size w w'
  rw [hp, hq]
  have hz1 : (w.alloc (.cells (VD (b0, b1)) 26)).heap.size = w.heap.size + 1 := by simp
  have c1 : Below w.heap.size w (w.alloc (.cells (VD (b0, b1)) 26)) := (Below.refl _ _).alloc (Nat.le_refl _) _
  have c2 := c1.alloc c1.size (.cells (VD (p, q)) 26)
  have hX : ((w.alloc (.cells (VD (b0, b1)) 26)).alloc (.cells (VD (p, q)) 26)).heap[w.heap.size + 1]? = some (.cells (VD (p, q)) 26 (0, 0)) := by rw [← hz1]; exact heap_alloc_new _ _
  have HX := Lib.hid (And.intro hX c2)
  clear hz1 c1 c2 hX
  go_enter Try.func11, Try.ntmps11
  go_wp2
  refine bodyPost_ret (results_cell_row rfl _ _ (w.heap.size + 1) _ _ (0, 0) _ rfl HX.out.1 Try.underlying26 rfl (by kernel_rfl)) rfl ?_
  exact ⟨rfl, HX.out.2⟩
theorem bIn_any (b : Int × Int) (n : Int) (w : World) :
    Calls Try.prog 13 #[.agg (VD b), .int .u64 n] w fun r w' => r = .returned (.bool (inD b n)) ∧ Below w.heap.size w w' := by
  obtain ⟨b0, b1⟩ := b
  have HB := Lib.hid (show Below w.heap.size w (w.alloc (.cells (VD (b0, b1)) 26)) from (Below.refl _ _).alloc (Nat.le_refl _) _)
  by_cases h1 : b0 ≤ n
  · by_cases h2 : n ≤ b1
    · have HF := Lib.hid (show inD (b0, b1) n = true by simp [inD, h1, h2])
      go_enter Try.func13, Try.ntmps13
      go_wp2
      go_ret
      rw [HF.out]
      exact ⟨rfl, HB.out⟩
    · have HF := Lib.hid (show inD (b0, b1) n = false by simp [inD, h2])
      go_enter Try.func13, Try.ntmps13
      go_wp2
      go_ret
      rw [HF.out]
      exact ⟨rfl, HB.out⟩
  · have HF := Lib.hid (show inD (b0, b1) n = false by simp [inD, h1])
    go_enter Try.func13, Try.ntmps13
    go_wp2
    go_ret
    rw [HF.out]
    exact ⟨rfl, HB.out⟩
theorem progBd : ProgBd := ⟨bOf_any, bAdd_any, fun b m w _ _ => bCap_any b m w, fun b n w _ _ => bIn_any b n w⟩
theorem bBefore_any (p q : En) (w : World) : Calls Try.prog 21 #[.agg (VL p), .agg (VL q)] w fun r w' => r = .returned (.bool (lnB p q)) ∧ Below w.heap.size w w' := by
  have b1 : Below w.heap.size w ((w.alloc (.cells (VL p) 43)).alloc (.cells (VL q) 43)) := ((Below.refl _ _).alloc (Nat.le_refl _) _).alloc (by simp) _
  have hC := fun W => compareL_any p q W
  go_enter Try.func21, Try.ntmps21
  go_wp2_with fail
  refine (hC _).mono ?_
  rintro e w2 ⟨z, rfl, hz, h2⟩
  have HB := Lib.hid (below_then b1 h2)
  clear h2 hC b1
  cases hb : lnB p q
  all_goals
    have HF := Lib.hid hb
    rw [hb] at hz
    clear hb
    go_wp2
    go_ret
    rw [HF.out]
    exact ⟨rfl, HB.out⟩
theorem progBf : ProgBf := ⟨bBefore_any⟩
end Go.Proofs.Ytbdafhephmoedaa
