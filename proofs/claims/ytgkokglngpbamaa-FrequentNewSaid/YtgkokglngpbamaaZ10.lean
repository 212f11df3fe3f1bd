/- Words laid together in one text. Conditions: none beyond those typed. -/
import Derived.Test.YtgkokglngpbamaaZ04
import Derived.BigQuiet
import Derived.StillTailTactics
import Derived.Test.YtgkokglngpbamaaTm
import Derived.Deep.RegionHeld3
import Derived.Deep.CutRange
import Derived.Test.YtgkokglngpbamaaZ08
import Derived.Test.YtgkokglngpbamaaZ09
import Derived.Test.YtgkokglngpbamaaZ07
/- The specified table in memory: Swap (mode Frequent). Conditions: none beyond those typed. -/
namespace Go.Proofs.Ytgkokglngpbamaa
open Go.ChangeShapes Go.WideShapes Go.ChangeAt Go.RowKit
set_option linter.unusedVariables false
set_option linter.unusedSimpArgs false
set_option maxRecDepth 100000

section
variable {P : Nat → Prop} {col col' : Col} {w w' : World} {k g : Nat} {t : TSt}
set_option maxHeartbeats 4000000 in
theorem rfSwapOk (H : RefF col k w g t) (ht : Tidy col w) (s : ByteArray) (e : En) {i : Nat} (hp : placeE t.l s = some i) (hz : e.1.size ≠ 0) (hd : placeE t.l e.1 = none) (he1 : 0 ≤ e.2.1 ∧ e.2.1 ≤ 18446744073709551615) (hr : ¬ (e.2.1 = 0 ∨ ownAt t.l i < e.2.1 ∨ t.base < e.2.2)) :
    Calls Try.prog 25 #[.pointer (some ⟨g, 0, none⟩), .string s, .agg #[.string e.1, .int .u64 e.2.1, .int .u64 e.2.2]] w fun r w' => r = .returned (.tuple #[.agg (VE (t.getF s).1), .int .i64 0]) ∧ DidRF col k w g { t with l := withoutE t.l i ++ [(e.1, e.2.1, 0)] } w' := by
  have b0 : Below w.heap.size w (w.alloc (.cells #[.string e.1, .int .u64 e.2.1, .int .u64 e.2.2] 32)) := (Below.refl _ _).alloc (Nat.le_refl _) _
  have b1 : Below w.heap.size w ((w.alloc (.cells #[.string e.1, .int .u64 e.2.1, .int .u64 e.2.2] 32)).alloc (.cells #[.string ⟨#[]⟩, .int .u64 0, .int .u64 0] 32)) := b0.alloc b0.size _
  have T0 := ht.size b0.size
  have H1 := H.below ht b1
  have ht1 := ht.size b1.size
  have X1 : BoxC col ((w.alloc (.cells #[.string e.1, .int .u64 e.2.1, .int .u64 e.2.2] 32)).alloc (.cells #[.string ⟨#[]⟩, .int .u64 0, .int .u64 0] 32)) (w.alloc (.cells #[.string e.1, .int .u64 e.2.1, .int .u64 e.2.2] 32)).heap.size 0 (VE zeroE) 32 := ⟨heap_alloc_new _ _, T0 _ (Nat.le_refl _)⟩
  rw [show (w.alloc (.cells #[.string e.1, .int .u64 e.2.1, .int .u64 e.2.2] 32)).heap.size = w.heap.size + 1 by simp] at X1
  obtain ⟨W1, hW1⟩ : ∃ W1, W1 = ((w.alloc (.cells #[.string e.1, .int .u64 e.2.1, .int .u64 e.2.2] 32)).alloc (.cells #[.string ⟨#[]⟩, .int .u64 0, .int .u64 0] 32)) := ⟨_, rfl⟩
  rw [← hW1] at H1 X1 ht1 b1
  have X5 : BoxC col W1 w.heap.size 0 (VE e) 32 := by
    rw [hW1]
    exact BoxC.keep (P := fun _ => False) ⟨heap_alloc_new _ _, ht _ (Nat.le_refl _)⟩ (StepC.alloc T0 _) (fun h => h)
  obtain ⟨e0, he0, -, hil⟩ := placeE_some hp
  have HGA := Lib.hid (show GoodF { t with l := withoutE t.l i ++ [(e.1, e.2.1, 0)] } by
    have := H.1.swapF s he1.1 (e := e)
    unfold TSt.swapF at this
    rw [hp] at this
    change GoodF (if e.1.size = 0 then _ else _ : (En × Int) × TSt).2 at this
    rw [if_neg hz, if_neg (by rw [hd]; simp), if_neg hr] at this
    exact this)
  have HP := Lib.hid hp
  have HE0 := Lib.hid he0
  have HK := Lib.hid (show 1 ≤ k by obtain ⟨_, _, _, h⟩ := H; exact h.k1)
  have hb : e.1.toList.isEmpty = false := ba_some (by omega)
  have hGt := rfGet H1 ht1 s
  obtain ⟨te, hte⟩ : ∃ te, t.tellF e0 = te := ⟨_, rfl⟩
  have hgf : t.getF s = (te, true) := by unfold TSt.getF; rw [hp]; show (t.tellF ((t.l[i]?).getD zeroE), true) = _; rw [he0, ← hte]; rfl
  rw [hgf] at hGt ⊢
  show Calls _ _ _ _ (fun r w' => r = .returned (.tuple #[.agg (VE te), .int .i64 0]) ∧ _)
  replace hGt : Calls Try.prog 26 #[.pointer (some ⟨g, 0, none⟩), .string s] W1 (fun e w' => e = .returned (.tuple #[.agg #[.string te.1, .int .u64 te.2.1, .int .u64 te.2.2], .bool true]) ∧ Below W1.heap.size W1 w') := hGt
  obtain ⟨G5, hG5⟩ : ∃ G5, w.heap.size = G5 := ⟨_, rfl⟩
  obtain ⟨G, hG⟩ : ∃ G, G5 + 1 = G := ⟨_, rfl⟩
  rw [hG5, hG] at X1
  rw [hG5] at X5
  have hGW : w.heap.size ≤ G := by omega
  go_enter Try.func25, Try.ntmps25
  go_wp2_with fail
  rw [← hW1]
  clear hW1
  refine hGt.mono ?_
  rintro eR w2 ⟨rfl, b2⟩
  have b3 : Below W1.heap.size W1 (w2.alloc (.cells #[.string te.1, .int .u64 te.2.1, .int .u64 te.2.2] 32)) := b2.alloc b2.size _
  have X3 : BoxC col (w2.alloc (.cells #[.string te.1, .int .u64 te.2.1, .int .u64 te.2.2] 32)) G 0 (VE zeroE) 32 := X1.keep (P := fun _ => False) (StepC.below ht1 b3) (fun h => h)
  have X6 := X5.keep (P := fun _ => False) (StepC.below ht1 b3) (fun h => h)
  have v0 : (w2.alloc (.cells #[.string te.1, .int .u64 te.2.1, .int .u64 te.2.2] 32)).cell? ⟨G5, 0, none⟩ = some (.string e.1) := X6.cell 0 rfl
  have X8 : BoxC col (w2.alloc (.cells #[.string te.1, .int .u64 te.2.1, .int .u64 te.2.2] 32)) w2.heap.size 0 (VE te) 32 := ⟨heap_alloc_new _ _, (ht1.size b2.size) _ (Nat.le_refl _)⟩
  obtain ⟨G8, hG8⟩ : ∃ G8, w2.heap.size = G8 := ⟨_, rfl⟩
  have HN := Lib.hid (show w.heap.size ≤ G5 ∧ G8 ≠ G5 ∧ G ≠ G5 from by have h1 := X1.lt; have h2 := b2.size; rw [hG8] at h2; exact ⟨Nat.le_of_eq hG5, by omega, by omega⟩)
  rw [hG8] at X8
  have T3 := ht1.size b3.size
  have S3 : StepC (Rng k) col w col (w2.alloc (.cells #[.string te.1, .int .u64 te.2.1, .int .u64 te.2.2] 32)) := StepC.below ht (below_then b1 b3)
  have H3 := H1.below ht1 b3
  go_upto_region 6 with fail
  have hbb := below_then b1 b3
  generalize w2.alloc (.cells #[.string te.1, .int .u64 te.2.1, .int .u64 te.2.2] 32) = W3 at *
  obtain ⟨hGd, A, c, HB3⟩ := H3
  obtain ⟨n, hn⟩ : ∃ n, t.l.length = n := ⟨_, rfl⟩
  have hn6 : n ≤ 64 := by have := hGd.len; have := hGd.m1; omega
  have y2 : W3.cell? ⟨g, 2, none⟩ = some (.slice A n c) := by rw [← hn]; exact HB3.box.cell 2 rfl
  have hRow : RdG kEn W3 A n c t.l := by rw [← hn]; exact HB3.row.own.reads
  have hPl := fun (W : World) (hb : Below W3.heap.size W3 W) => place_any (hRow.below hb) (by omega) e.1
  unfold placeI at hPl
  rw [hd] at hPl
  have hox : ownAt t.l i = te.2.1 := by unfold ownAt; rw [he0, ← hte]; rfl
  rw [hox] at hr
  have b3c : W3.cell? ⟨g, 3, none⟩ = some (.int .u64 t.base) := HB3.box.cell 3 rfl
  have z0 : W3.cell? ⟨g, 0, none⟩ = some (.int .i64 2) := HB3.box.cell 0 rfl
  have v1 : W3.cell? ⟨G5, 1, none⟩ = some (.int .u64 e.2.1) := X6.cell 1 rfl
  have v2 : W3.cell? ⟨G5, 2, none⟩ = some (.int .u64 e.2.2) := X6.cell 2 rfl
  have q1 : W3.cell? ⟨G8, 1, none⟩ = some (.int .u64 te.2.1) := X8.cell 1 rfl
  have q2 : W3.cell? ⟨G8, 2, none⟩ = some (.int .u64 te.2.2) := X8.cell 2 rfl
  have HX3 := Lib.hid X3
  have HH := Lib.hid H
  have HBB := Lib.hid hbb
  have XE3 := Lib.hid X6
  have XQ3 := Lib.hid X8
  clear X8 hG8 hte hox hgf HB3 hRow X1 X3 X5 X6 H1 H b0 b1 b2 b3 hGt hp he0 S3 hbb
  have hSP : ∀ W, Below W3.heap.size W3 W → (fun w' => w'.cell? ⟨g, 2, none⟩ = some (.slice A n c) ∧ w'.cell? ⟨G5, 0, none⟩ = some (.string e.1)) W := fun W B => ⟨(cellB y2 B).1, (cellB v0 B).1⟩
  refine wp_region_noPanic ?_
  refine wp_region_late (fun w' => w'.cell? ⟨g, 2, none⟩ = some (.slice A n c) ∧ w'.cell? ⟨G5, 0, none⟩ = some (.string e.1)) (fun j => [0, 1, 2, 4].contains j) (by kernel_rfl) ?_
  intro u0 hu0
  have B0 : Below W3.heap.size W3 u0 := by rw [← hu0]; exact bdM _
  have hS : (fun w' => w'.cell? ⟨g, 2, none⟩ = some (.slice A n c) ∧ w'.cell? ⟨G5, 0, none⟩ = some (.string e.1)) u0 := hSP _ B0
  clear hu0
  refine wpAnyL_takeY 0 _ (.pointer (some ⟨g, 0, none⟩)) rfl (by kernel_rfl) (by kernel_rfl) (by kernel_rfl) (by kernel_rfl) (fun _ _ _ h => h) (Or.inl ⟨by rfl, ?_⟩) ?_
  · intro w'; go_simp
  simp only [Act.put, List.setIfInBounds_toArray, List.set_cons_zero, List.set_cons_succ]
  refine wpAnyL_takeY 1 _ (.pointer (some ⟨g, 0, none⟩)) rfl (by kernel_rfl) (by kernel_rfl) (by kernel_rfl) (by kernel_rfl) (fun _ _ _ h => h) (Or.inl ⟨by rfl, ?_⟩) ?_
  · intro w'; go_simp
  simp only [Act.put, List.setIfInBounds_toArray, List.set_cons_zero, List.set_cons_succ]
  refine wpAnyL_takeY 2 _ (.pointer (some ⟨g, 2, none⟩)) rfl (by kernel_rfl) (by kernel_rfl) (by kernel_rfl) (by kernel_rfl) (fun _ _ _ h => h) (Or.inl ⟨by rfl, ?_⟩) ?_
  · intro w'; go_simp
  simp only [Act.put, List.setIfInBounds_toArray, List.set_cons_zero, List.set_cons_succ]
  refine wpAnyL_takeY 4 _ (.pointer (some ⟨G5, 0, none⟩)) rfl (by kernel_rfl) (by kernel_rfl) (by kernel_rfl) (by kernel_rfl) (fun _ _ _ h => h) (Or.inl ⟨by rfl, ?_⟩) ?_
  · intro w'; go_simp
  simp only [Act.put, List.setIfInBounds_toArray, List.set_cons_zero, List.set_cons_succ]
  refine wpAnyL_take 3 _ (.slice A n c) rfl (by kernel_rfl) (by kernel_rfl) (by kernel_rfl) (by kernel_rfl) (fun _ _ _ h => h) (Or.inl ⟨by rfl, ?_⟩) hS ?_
  · rintro w' ⟨hS0, hS1⟩; go_simp
  simp only [Act.put, List.setIfInBounds_toArray, List.set_cons_zero, List.set_cons_succ]
  refine wpAnyL_take 5 _ (.string e.1) rfl (by kernel_rfl) (by kernel_rfl) (by kernel_rfl) (by kernel_rfl) (fun _ _ _ h => h) (Or.inl ⟨by rfl, ?_⟩) hS ?_
  · rintro w' ⟨hS0, hS1⟩; go_simp
  simp only [Act.put, List.setIfInBounds_toArray, List.set_cons_zero, List.set_cons_succ]
  clear hS
  refine wpAnyL_all [6] (by kernel_rfl) (by simp) ?_
  refine lateCons ?_ lateNil
  refine wpOpL_step _ rfl (fun K' hK => ?_)
  go_simp
  refine (hPl _ B0).mono ?_
  rintro eR u1 ⟨rfl, bp⟩
  have B1 := below_then B0 bp
  refine hK.out _ _ (fun _ => hSP _ B1) ?_
  clear hK K' bp B0
  try simp only [Act.put, List.setIfInBounds_toArray, List.set_cons_zero, List.set_cons_succ]
  refine wpAnyL_take 7 _ (.bool false) rfl (by kernel_rfl) (by kernel_rfl) (by kernel_rfl) (by kernel_rfl) (fun _ _ _ h => h) (Or.inl ⟨by rfl, ?_⟩) (hSP _ B1) ?_
  · rintro w' ⟨hS0, hS1⟩; go_simp
  simp only [Act.put, List.setIfInBounds_toArray, List.set_cons_zero, List.set_cons_succ]
  refine wpAnyL_done (by kernel_rfl) ?_ _
  dsimp only [NoPanic]
  have z0' : u1.cell? ⟨g, 0, none⟩ = some (.int .i64 2) := (cellB z0 B1).1
  have v1' : u1.cell? ⟨G5, 1, none⟩ = some (.int .u64 e.2.1) := (cellB v1 B1).1
  have v2' : u1.cell? ⟨G5, 2, none⟩ = some (.int .u64 e.2.2) := (cellB v2 B1).1
  have q1' : u1.cell? ⟨G8, 1, none⟩ = some (.int .u64 te.2.1) := (cellB q1 B1).1
  have b3' : u1.cell? ⟨g, 3, none⟩ = some (.int .u64 t.base) := (cellB b3c B1).1
  have d0 : (e.2.1 == 0) = false := beq_false_of_ne (fun h => hr (Or.inl h))
  have d1 : decide (e.2.1 > te.2.1) = false := decide_eq_false (fun h => hr (Or.inr (Or.inl h)))
  have d2 : decide (e.2.2 > t.base) = false := decide_eq_false (fun h => hr (Or.inr (Or.inr h)))
  have fs := (XE3.out.keep (P := fun _ => False) (StepC.below T3 B1) (fun h => h)).free 2
  clear z0 v1 v2 q1 q2 hr hPl hSP v0 y2 b3c
  go_wp2
  go_quiet (fail)
  go_upto_region 15 with fail
  go_wp2_with fail
  clear z0' v1' v2' q1' b3' fs
  have B2 := below_drewN B1 nq
  have B6 := (below_then HBB.out B2).setCell (p := ⟨G5, 2, none⟩) HN.out.1 (.int .u64 0)
  have XE6 : BoxC col ((u1.drewN nq).setCell ⟨G5, 2, none⟩ (.int .u64 0)) G5 0 (VE (e.1, e.2.1, 0)) 32 := (XE3.out.keep (P := fun _ => False) (StepC.below T3 B2) (fun h => h)).put 2 (.int .u64 0)
  have XQ6 : BoxC col ((u1.drewN nq).setCell ⟨G5, 2, none⟩ (.int .u64 0)) G8 0 (VE te) 32 := by
    have X := XQ3.out.keep (P := fun _ => False) (StepC.below T3 B2) (fun h => h)
    exact ⟨(Below.heap_setCell _ _ _ _ HN.out.2.1).trans X.heap, X.col⟩
  have XR6 : BoxC col ((u1.drewN nq).setCell ⟨G5, 2, none⟩ (.int .u64 0)) G 0 (VE zeroE) 32 := by
    have X := HX3.out.keep (P := fun _ => False) (StepC.below T3 B2) (fun h => h)
    exact ⟨(Below.heap_setCell _ _ _ _ HN.out.2.2).trans X.heap, X.col⟩
  generalize (u1.drewN nq).setCell ⟨G5, 2, none⟩ (.int .u64 0) = W6 at *
  obtain ⟨z, hz9⟩ : ∃ z : Int, 0 = z := ⟨_, rfl⟩
  have HE := Lib.hid (show ((e.1, e.2.1, 0) : En) = (e.1, e.2.1, z) by rw [hz9])
  rw [hz9] at XE6
  obtain ⟨_, A6, c, HB6⟩ := HH.out.below ht B6
  obtain ⟨b, rfl, _⟩ : ∃ b, A6 = some ⟨b, 0, none⟩ ∧ b < W6.heap.size := by have := HB6.row.own.head (by omega); exact this
  have T1 := ht.size B6.size
  have y1 : W6.cell? ⟨g, 2, none⟩ = some (.slice (some ⟨b, 0, none⟩) n c) := by rw [← hn]; exact HB6.box.cell 2 rfl
  have hRw : RdG kEn W6 (some ⟨b, 0, none⟩) n c t.l := by rw [← hn]; exact HB6.row.own.reads
  have g0 : W6.cell? ⟨G5, 0, none⟩ = some (.string e.1) := XE6.cell 0 rfl
  have g1 : W6.cell? ⟨G5, 1, none⟩ = some (.int .u64 e.2.1) := XE6.cell 1 rfl
  have g2 : W6.cell? ⟨G5, 2, none⟩ = some (.int .u64 z) := XE6.cell 2 rfl
  have hPl := fun (W : World) (hb : Below W6.heap.size W6 W) => place_any (hRw.below hb) (by omega) s
  unfold placeI at hPl
  rw [HP.out] at hPl
  have hin : i < n := by omega
  have hWo := fun (W : World) (hb : Below W6.heap.size W6 W) => without_any (hRw.below hb) (by omega) (i := i) hin
  have hlw : (withoutE t.l i).length = n - 1 := by have := (without_at HE0.out).1; omega
  have hly : (withoutE t.l i ++ [(e.1, e.2.1, z)]).length = n := by rw [List.length_append, hlw]; show n - 1 + 1 = n; omega
  have hby : (withoutE t.l i).length + 1 ≤ 1000000000 := by omega
  have HG := Lib.hid (show GoodF { t with l := withoutE t.l i ++ [(e.1, e.2.1, z)] } by rw [← HE.out]; exact HGA.out)
  have HB := Lib.hid HB6
  have HS := Lib.hid (StepC.below (P := Rng k) (col := col) ht B6)
  have HQ6 := Lib.hid XQ6
  have HR6 := Lib.hid XR6
  have hGs := hGW
  have hn1 : 1 ≤ n := by omega
  clear hz9 XE6 XQ6 XR6 HB6 hRw hlw B6 hG hG5
  have hSP : ∀ W, Below W6.heap.size W6 W → (fun w' => w'.cell? ⟨g, 2, none⟩ = some (.slice (some ⟨b, 0, none⟩) n c) ∧ w'.cell? ⟨G5, 0, none⟩ = some (.string e.1) ∧ w'.cell? ⟨G5, 1, none⟩ = some (.int .u64 e.2.1) ∧ w'.cell? ⟨G5, 2, none⟩ = some (.int .u64 z)) W := fun W B => ⟨(cellB y1 B).1, (cellB g0 B).1, (cellB g1 B).1, (cellB g2 B).1⟩
  refine wp_region_noPanic ?_
  refine wp_region_late (fun w' => w'.cell? ⟨g, 2, none⟩ = some (.slice (some ⟨b, 0, none⟩) n c) ∧ w'.cell? ⟨G5, 0, none⟩ = some (.string e.1) ∧ w'.cell? ⟨G5, 1, none⟩ = some (.int .u64 e.2.1) ∧ w'.cell? ⟨G5, 2, none⟩ = some (.int .u64 z)) (fun j => [0, 1, 2, 3, 5, 6, 7, 9, 15, 16, 17].contains j) (by kernel_rfl) ?_
  intro u0 hu0
  have B0 : Below W6.heap.size W6 u0 := by rw [← hu0]; exact bdM _
  have hS : (fun w' => w'.cell? ⟨g, 2, none⟩ = some (.slice (some ⟨b, 0, none⟩) n c) ∧ w'.cell? ⟨G5, 0, none⟩ = some (.string e.1) ∧ w'.cell? ⟨G5, 1, none⟩ = some (.int .u64 e.2.1) ∧ w'.cell? ⟨G5, 2, none⟩ = some (.int .u64 z)) u0 := hSP _ B0
  clear hu0
  refine wpAnyL_takeY 0 _ (.pointer (some ⟨g, 0, none⟩)) rfl (by kernel_rfl) (by kernel_rfl) (by kernel_rfl) (by kernel_rfl) (fun _ _ _ h => h) (Or.inl ⟨by rfl, ?_⟩) ?_
  · intro w'; go_simp
  simp only [Act.put, List.setIfInBounds_toArray, List.set_cons_zero, List.set_cons_succ]
  refine wpAnyL_takeY 1 _ (.pointer (some ⟨g, 0, none⟩)) rfl (by kernel_rfl) (by kernel_rfl) (by kernel_rfl) (by kernel_rfl) (fun _ _ _ h => h) (Or.inl ⟨by rfl, ?_⟩) ?_
  · intro w'; go_simp
  simp only [Act.put, List.setIfInBounds_toArray, List.set_cons_zero, List.set_cons_succ]
  refine wpAnyL_takeY 2 _ (.pointer (some ⟨g, 0, none⟩)) rfl (by kernel_rfl) (by kernel_rfl) (by kernel_rfl) (by kernel_rfl) (fun _ _ _ h => h) (Or.inl ⟨by rfl, ?_⟩) ?_
  · intro w'; go_simp
  simp only [Act.put, List.setIfInBounds_toArray, List.set_cons_zero, List.set_cons_succ]
  refine wpAnyL_takeY 3 _ (.pointer (some ⟨g, 2, none⟩)) rfl (by kernel_rfl) (by kernel_rfl) (by kernel_rfl) (by kernel_rfl) (fun _ _ _ h => h) (Or.inl ⟨by rfl, ?_⟩) ?_
  · intro w'; go_simp
  simp only [Act.put, List.setIfInBounds_toArray, List.set_cons_zero, List.set_cons_succ]
  refine wpAnyL_takeY 5 _ (.pointer (some ⟨g, 0, none⟩)) rfl (by kernel_rfl) (by kernel_rfl) (by kernel_rfl) (by kernel_rfl) (fun _ _ _ h => h) (Or.inl ⟨by rfl, ?_⟩) ?_
  · intro w'; go_simp
  simp only [Act.put, List.setIfInBounds_toArray, List.set_cons_zero, List.set_cons_succ]
  refine wpAnyL_takeY 6 _ (.pointer (some ⟨g, 0, none⟩)) rfl (by kernel_rfl) (by kernel_rfl) (by kernel_rfl) (by kernel_rfl) (fun _ _ _ h => h) (Or.inl ⟨by rfl, ?_⟩) ?_
  · intro w'; go_simp
  simp only [Act.put, List.setIfInBounds_toArray, List.set_cons_zero, List.set_cons_succ]
  refine wpAnyL_takeY 7 _ (.pointer (some ⟨g, 2, none⟩)) rfl (by kernel_rfl) (by kernel_rfl) (by kernel_rfl) (by kernel_rfl) (fun _ _ _ h => h) (Or.inl ⟨by rfl, ?_⟩) ?_
  · intro w'; go_simp
  simp only [Act.put, List.setIfInBounds_toArray, List.set_cons_zero, List.set_cons_succ]
  refine wpAnyL_takeY 9 _ (.string s) rfl (by kernel_rfl) (by kernel_rfl) (by kernel_rfl) (by kernel_rfl) (fun _ _ _ h => h) (Or.inl ⟨by rfl, ?_⟩) ?_
  · intro w'; go_simp
  simp only [Act.put, List.setIfInBounds_toArray, List.set_cons_zero, List.set_cons_succ]
  refine wpAnyL_take 4 _ (.slice (some ⟨b, 0, none⟩) n c) rfl (by kernel_rfl) (by kernel_rfl) (by kernel_rfl) (by kernel_rfl) (fun _ _ _ h => h) (Or.inl ⟨by rfl, ?_⟩) hS ?_
  · rintro w' ⟨hS0, hS1, hS2, hS3⟩; go_simp
  simp only [Act.put, List.setIfInBounds_toArray, List.set_cons_zero, List.set_cons_succ]
  refine wpAnyL_take 8 _ (.slice (some ⟨b, 0, none⟩) n c) rfl (by kernel_rfl) (by kernel_rfl) (by kernel_rfl) (by kernel_rfl) (fun _ _ _ h => h) (Or.inl ⟨by rfl, ?_⟩) hS ?_
  · rintro w' ⟨hS0, hS1, hS2, hS3⟩; go_simp
  simp only [Act.put, List.setIfInBounds_toArray, List.set_cons_zero, List.set_cons_succ]
  refine wpAnyL_take 12 _ (.agg #[.string e.1, .int .u64 e.2.1, .int .u64 z]) rfl (by kernel_rfl) (by kernel_rfl) (by kernel_rfl) (by kernel_rfl) (fun _ _ _ h => h) (Or.inl ⟨by rfl, ?_⟩) hS ?_
  · rintro w' ⟨hS0, hS1, hS2, hS3⟩; go_simp
  simp only [Act.put, List.setIfInBounds_toArray, List.set_cons_zero, List.set_cons_succ]
  clear hS
  refine wpAnyL_all [10, 13] (by kernel_rfl) (by simp) ?_
  refine (lateCons ?_ (lateCons ?_ lateNil))
  · refine wpOpL_step _ rfl (fun K' hK => ?_)
    go_simp
    refine (hPl _ B0).mono ?_
    rintro e u1 ⟨rfl, bp⟩
    have B1 := below_then B0 bp
    refine hK.out _ _ (fun _ => hSP _ B1) ?_
    clear hK K' bp B0
    try simp only [Act.put, List.setIfInBounds_toArray, List.set_cons_zero, List.set_cons_succ]
    refine wpAnyL_all [11, 13] (by kernel_rfl) (by simp) ?_
    refine (lateCons ?_ (lateCons ?_ lateNil))
    · refine wpOpL_step _ rfl (fun K' hK => ?_)
      go_simp
      refine (hWo _ B1).mono ?_
      rintro e u2 ⟨A2, c2, rfl, O2, N2, bw⟩
      have B2 := below_then B1 bw
      have R2 : MidR kEn W6 u2 (.slice A2 (n - 1) c2) (withoutE t.l i) := ⟨O2, (fun q hq => Nat.le_trans B1.size (N2 q hq)), B2⟩
      refine hK.out _ _ (fun _ => hSP _ B2) ?_
      clear hK K' bw O2 N2 B1
      try simp only [Act.put, List.setIfInBounds_toArray, List.set_cons_zero, List.set_cons_succ]
      refine wpAnyL_all [13] (by kernel_rfl) (by simp) ?_
      refine (lateCons ?_ lateNil)
      · refine wpOpL_step _ rfl (fun K' hK => ?_)
        refine litThen kEn (e.1, e.2.1, z) (cs := #[.string e.1, .int .u64 e.2.1, .int .u64 z]) rfl (t := 32) rfl B2 ?_
        intro u3 pL e1 e2 B3 L k3
        have R3 := (k3 _ _ R2).1
        clear R2
        go_simp
        try rw [e1]
        try rw [e2]
        clear k3
        refine hK.out _ _ (fun _ => hSP _ B3) ?_
        clear hK K' B2
        try simp only [Act.put, List.setIfInBounds_toArray, List.set_cons_zero, List.set_cons_succ]
        refine wpAnyL_all [14] (by kernel_rfl) (by simp) ?_
        refine (lateCons ?_ lateNil)
        · refine wpOpL_step _ rfl (fun K' hK => ?_)
          refine R3.step rfl (.tmp 99) (.tmp 101) rfl rfl _ _ _ _ rfl L hby hly ?_
          intro A4 d4 u4 R4 k4
          have B4 := R4.bel
          clear R3 L k4
          refine hK.out _ _ (fun _ => hSP _ B4) ?_
          clear hK K' B3
          try simp only [Act.put, List.setIfInBounds_toArray, List.set_cons_zero, List.set_cons_succ]
          have f0 := (HB.out.below T1 B4).box.free 2
          have c0 := (cellB y1 B4).1
          have HR := Lib.hid R4
          clear R4
          refine wpAnyL_takeY 15 _ (.pointer (some ⟨g, 0, none⟩)) rfl (by kernel_rfl) (by kernel_rfl) (by kernel_rfl) (by kernel_rfl) (fun _ _ _ h => h) (Or.inl ⟨by rfl, ?_⟩) ?_
          · intro w'; go_simp
          simp only [Act.put, List.setIfInBounds_toArray, List.set_cons_zero, List.set_cons_succ]
          refine wpAnyL_takeY 16 _ (.pointer (some ⟨g, 2, none⟩)) rfl (by kernel_rfl) (by kernel_rfl) (by kernel_rfl) (by kernel_rfl) (fun _ _ _ h => h) (Or.inl ⟨by rfl, ?_⟩) ?_
          · intro w'; go_simp
          simp only [Act.put, List.setIfInBounds_toArray, List.set_cons_zero, List.set_cons_succ]
          refine wpAnyL_all [17] (by kernel_rfl) (by simp) ?_
          refine lateCons ?_ lateNil
          refine wpOpL_step _ rfl (fun K' hK => ?_)
          go_simp
          refine hK.out _ _ (fun h => absurd h (by decide)) ?_
          clear hK K'
          try simp only [Act.put, List.setIfInBounds_toArray, List.set_cons_zero, List.set_cons_succ]
          refine wpAnyL_done (by kernel_rfl) ?_ _
          dsimp only [NoPanic]
          obtain ⟨col5, M5, S5⟩ := HB.out.newRow T1 B4 hly HR.out.own HR.out.new
          have X9 := HR6.out.keep S5 (rng0 HK.out)
          have X10 := HQ6.out.keep S5 (rng0 HK.out)
          have v0 := X10.cell 0 (u := .string te.1) rfl
          have v1 := X10.cell 1 (u := .int .u64 te.2.1) rfl
          have v2 := X10.cell 2 (u := .int .u64 te.2.2) rfl
          have g0 := X9.cell 0 (u := .string ⟨#[]⟩) rfl
          have g1 := X9.cell 1 (u := .int .u64 0) rfl
          have g2 := X9.cell 2 (u := .int .u64 0) rfl
          have gf0 := X9.free 0
          have gf1 := X9.free 1
          have gf2 := X9.free 2
          obtain ⟨colf, M6, S6⟩ := RefF.inNew (t := { t with l := withoutE t.l i ++ [(e.1, e.2.1, z)] }) ⟨HG.out, _, _, M5⟩ (HS.out.trans S5) X9.col hGs X9.lt te
          have HD := Lib.hid (show DidRF col k w g { t with l := withoutE t.l i ++ [(e.1, e.2.1, z)] } _ from ⟨_, M6, S6⟩)
          have HX := Lib.hid (vbox_en X9 (a := zeroE) te).heap
          clear M5 S5 X9 X10 M6 S6 HR B4 hPl hWo f0 c0 y1
          go_wp2
          refine bodyPost_ret (results_cell_row2 rfl _ _ G _ _ (0, 0) _ rfl HX.out Try.underlying32 rfl (by kernel_rfl)) rfl ?_
          refine ⟨rfl, ?_⟩
          rw [HE.out]
          exact HD.out
    · refine wpOpL_step _ rfl (fun K' hK => ?_)
      refine litThen kEn (e.1, e.2.1, z) (cs := #[.string e.1, .int .u64 e.2.1, .int .u64 z]) rfl (t := 32) rfl B1 ?_
      intro u2 pL e1 e2 B2 L k2
      go_simp
      try rw [e1]
      try rw [e2]
      clear k2
      refine hK.out _ _ (fun _ => hSP _ B2) ?_
      clear hK K' B1
      try simp only [Act.put, List.setIfInBounds_toArray, List.set_cons_zero, List.set_cons_succ]
      refine wpAnyL_all [11] (by kernel_rfl) (by simp) ?_
      refine (lateCons ?_ lateNil)
      · refine wpOpL_step _ rfl (fun K' hK => ?_)
        go_simp
        refine (hWo _ B2).mono ?_
        rintro e u3 ⟨A2, c2, rfl, O2, N2, bw⟩
        have B3 := below_then B2 bw
        have R3 : MidR kEn W6 u3 (.slice A2 (n - 1) c2) (withoutE t.l i) := ⟨O2, (fun q hq => Nat.le_trans B2.size (N2 q hq)), B3⟩
        have L := L.below bw
        refine hK.out _ _ (fun _ => hSP _ B3) ?_
        clear hK K' bw O2 N2 B2
        try simp only [Act.put, List.setIfInBounds_toArray, List.set_cons_zero, List.set_cons_succ]
        refine wpAnyL_all [14] (by kernel_rfl) (by simp) ?_
        refine (lateCons ?_ lateNil)
        · refine wpOpL_step _ rfl (fun K' hK => ?_)
          refine R3.step rfl (.tmp 99) (.tmp 101) rfl rfl _ _ _ _ rfl L hby hly ?_
          intro A4 d4 u4 R4 k4
          have B4 := R4.bel
          clear R3 L k4
          refine hK.out _ _ (fun _ => hSP _ B4) ?_
          clear hK K' B3
          try simp only [Act.put, List.setIfInBounds_toArray, List.set_cons_zero, List.set_cons_succ]
          have f0 := (HB.out.below T1 B4).box.free 2
          have c0 := (cellB y1 B4).1
          have HR := Lib.hid R4
          clear R4
          refine wpAnyL_takeY 15 _ (.pointer (some ⟨g, 0, none⟩)) rfl (by kernel_rfl) (by kernel_rfl) (by kernel_rfl) (by kernel_rfl) (fun _ _ _ h => h) (Or.inl ⟨by rfl, ?_⟩) ?_
          · intro w'; go_simp
          simp only [Act.put, List.setIfInBounds_toArray, List.set_cons_zero, List.set_cons_succ]
          refine wpAnyL_takeY 16 _ (.pointer (some ⟨g, 2, none⟩)) rfl (by kernel_rfl) (by kernel_rfl) (by kernel_rfl) (by kernel_rfl) (fun _ _ _ h => h) (Or.inl ⟨by rfl, ?_⟩) ?_
          · intro w'; go_simp
          simp only [Act.put, List.setIfInBounds_toArray, List.set_cons_zero, List.set_cons_succ]
          refine wpAnyL_all [17] (by kernel_rfl) (by simp) ?_
          refine lateCons ?_ lateNil
          refine wpOpL_step _ rfl (fun K' hK => ?_)
          go_simp
          refine hK.out _ _ (fun h => absurd h (by decide)) ?_
          clear hK K'
          try simp only [Act.put, List.setIfInBounds_toArray, List.set_cons_zero, List.set_cons_succ]
          refine wpAnyL_done (by kernel_rfl) ?_ _
          dsimp only [NoPanic]
          obtain ⟨col5, M5, S5⟩ := HB.out.newRow T1 B4 hly HR.out.own HR.out.new
          have X9 := HR6.out.keep S5 (rng0 HK.out)
          have X10 := HQ6.out.keep S5 (rng0 HK.out)
          have v0 := X10.cell 0 (u := .string te.1) rfl
          have v1 := X10.cell 1 (u := .int .u64 te.2.1) rfl
          have v2 := X10.cell 2 (u := .int .u64 te.2.2) rfl
          have g0 := X9.cell 0 (u := .string ⟨#[]⟩) rfl
          have g1 := X9.cell 1 (u := .int .u64 0) rfl
          have g2 := X9.cell 2 (u := .int .u64 0) rfl
          have gf0 := X9.free 0
          have gf1 := X9.free 1
          have gf2 := X9.free 2
          obtain ⟨colf, M6, S6⟩ := RefF.inNew (t := { t with l := withoutE t.l i ++ [(e.1, e.2.1, z)] }) ⟨HG.out, _, _, M5⟩ (HS.out.trans S5) X9.col hGs X9.lt te
          have HD := Lib.hid (show DidRF col k w g { t with l := withoutE t.l i ++ [(e.1, e.2.1, z)] } _ from ⟨_, M6, S6⟩)
          have HX := Lib.hid (vbox_en X9 (a := zeroE) te).heap
          clear M5 S5 X9 X10 M6 S6 HR B4 hPl hWo f0 c0 y1
          go_wp2
          refine bodyPost_ret (results_cell_row2 rfl _ _ G _ _ (0, 0) _ rfl HX.out Try.underlying32 rfl (by kernel_rfl)) rfl ?_
          refine ⟨rfl, ?_⟩
          rw [HE.out]
          exact HD.out
  · refine wpOpL_step _ rfl (fun K' hK => ?_)
    refine litThen kEn (e.1, e.2.1, z) (cs := #[.string e.1, .int .u64 e.2.1, .int .u64 z]) rfl (t := 32) rfl B0 ?_
    intro u1 pL e1 e2 B1 L k1
    go_simp
    try rw [e1]
    try rw [e2]
    clear k1
    refine hK.out _ _ (fun _ => hSP _ B1) ?_
    clear hK K' B0
    try simp only [Act.put, List.setIfInBounds_toArray, List.set_cons_zero, List.set_cons_succ]
    refine wpAnyL_all [10] (by kernel_rfl) (by simp) ?_
    refine (lateCons ?_ lateNil)
    · refine wpOpL_step _ rfl (fun K' hK => ?_)
      go_simp
      refine (hPl _ B1).mono ?_
      rintro e u2 ⟨rfl, bp⟩
      have B2 := below_then B1 bp
      have L := L.below bp
      refine hK.out _ _ (fun _ => hSP _ B2) ?_
      clear hK K' bp B1
      try simp only [Act.put, List.setIfInBounds_toArray, List.set_cons_zero, List.set_cons_succ]
      refine wpAnyL_all [11] (by kernel_rfl) (by simp) ?_
      refine (lateCons ?_ lateNil)
      · refine wpOpL_step _ rfl (fun K' hK => ?_)
        go_simp
        refine (hWo _ B2).mono ?_
        rintro e u3 ⟨A2, c2, rfl, O2, N2, bw⟩
        have B3 := below_then B2 bw
        have R3 : MidR kEn W6 u3 (.slice A2 (n - 1) c2) (withoutE t.l i) := ⟨O2, (fun q hq => Nat.le_trans B2.size (N2 q hq)), B3⟩
        have L := L.below bw
        refine hK.out _ _ (fun _ => hSP _ B3) ?_
        clear hK K' bw O2 N2 B2
        try simp only [Act.put, List.setIfInBounds_toArray, List.set_cons_zero, List.set_cons_succ]
        refine wpAnyL_all [14] (by kernel_rfl) (by simp) ?_
        refine (lateCons ?_ lateNil)
        · refine wpOpL_step _ rfl (fun K' hK => ?_)
          refine R3.step rfl (.tmp 99) (.tmp 101) rfl rfl _ _ _ _ rfl L hby hly ?_
          intro A4 d4 u4 R4 k4
          have B4 := R4.bel
          clear R3 L k4
          refine hK.out _ _ (fun _ => hSP _ B4) ?_
          clear hK K' B3
          try simp only [Act.put, List.setIfInBounds_toArray, List.set_cons_zero, List.set_cons_succ]
          have f0 := (HB.out.below T1 B4).box.free 2
          have c0 := (cellB y1 B4).1
          have HR := Lib.hid R4
          clear R4
          refine wpAnyL_takeY 15 _ (.pointer (some ⟨g, 0, none⟩)) rfl (by kernel_rfl) (by kernel_rfl) (by kernel_rfl) (by kernel_rfl) (fun _ _ _ h => h) (Or.inl ⟨by rfl, ?_⟩) ?_
          · intro w'; go_simp
          simp only [Act.put, List.setIfInBounds_toArray, List.set_cons_zero, List.set_cons_succ]
          refine wpAnyL_takeY 16 _ (.pointer (some ⟨g, 2, none⟩)) rfl (by kernel_rfl) (by kernel_rfl) (by kernel_rfl) (by kernel_rfl) (fun _ _ _ h => h) (Or.inl ⟨by rfl, ?_⟩) ?_
          · intro w'; go_simp
          simp only [Act.put, List.setIfInBounds_toArray, List.set_cons_zero, List.set_cons_succ]
          refine wpAnyL_all [17] (by kernel_rfl) (by simp) ?_
          refine lateCons ?_ lateNil
          refine wpOpL_step _ rfl (fun K' hK => ?_)
          go_simp
          refine hK.out _ _ (fun h => absurd h (by decide)) ?_
          clear hK K'
          try simp only [Act.put, List.setIfInBounds_toArray, List.set_cons_zero, List.set_cons_succ]
          refine wpAnyL_done (by kernel_rfl) ?_ _
          dsimp only [NoPanic]
          obtain ⟨col5, M5, S5⟩ := HB.out.newRow T1 B4 hly HR.out.own HR.out.new
          have X9 := HR6.out.keep S5 (rng0 HK.out)
          have X10 := HQ6.out.keep S5 (rng0 HK.out)
          have v0 := X10.cell 0 (u := .string te.1) rfl
          have v1 := X10.cell 1 (u := .int .u64 te.2.1) rfl
          have v2 := X10.cell 2 (u := .int .u64 te.2.2) rfl
          have g0 := X9.cell 0 (u := .string ⟨#[]⟩) rfl
          have g1 := X9.cell 1 (u := .int .u64 0) rfl
          have g2 := X9.cell 2 (u := .int .u64 0) rfl
          have gf0 := X9.free 0
          have gf1 := X9.free 1
          have gf2 := X9.free 2
          obtain ⟨colf, M6, S6⟩ := RefF.inNew (t := { t with l := withoutE t.l i ++ [(e.1, e.2.1, z)] }) ⟨HG.out, _, _, M5⟩ (HS.out.trans S5) X9.col hGs X9.lt te
          have HD := Lib.hid (show DidRF col k w g { t with l := withoutE t.l i ++ [(e.1, e.2.1, z)] } _ from ⟨_, M6, S6⟩)
          have HX := Lib.hid (vbox_en X9 (a := zeroE) te).heap
          clear M5 S5 X9 X10 M6 S6 HR B4 hPl hWo f0 c0 y1
          go_wp2
          refine bodyPost_ret (results_cell_row2 rfl _ _ G _ _ (0, 0) _ rfl HX.out Try.underlying32 rfl (by kernel_rfl)) rfl ?_
          refine ⟨rfl, ?_⟩
          rw [HE.out]
          exact HD.out
end
end Go.Proofs.Ytgkokglngpbamaa

/- The specified table (mode Frequent): Swap, whatever is given. Conditions: none beyond those typed. -/
namespace Go.Proofs.Ytgkokglngpbamaa
open Go.ChangeShapes Go.WideShapes Go.ChangeAt Go.RowKit
set_option linter.unusedVariables false
set_option linter.unusedSimpArgs false

theorem rfSwap {col : Col} {w : World} {k g : Nat} {t : TSt} (H : RefF col k w g t) (ht : Tidy col w) (s : ByteArray) (e : En) (he1 : 0 ≤ e.2.1 ∧ e.2.1 ≤ 18446744073709551615) :
    Calls Try.prog 25 #[.pointer (some ⟨g, 0, none⟩), .string s, .agg #[.string e.1, .int .u64 e.2.1, .int .u64 e.2.2]] w fun r w' => r = .returned (.tuple #[.agg (VE (t.swapF s e).1.1), .int .i64 (t.swapF s e).1.2]) ∧ DidRF col k w g (t.swapF s e).2 w' := by
  cases hp : placeE t.l s with
  | none =>
    have hT : t.swapF s e = ((zeroE, 8), t) := by unfold TSt.swapF; rw [hp]
    rw [hT]
    exact rfSwapNone H ht s e hp
  | some i =>
    have hT : t.swapF s e = (if e.1.size = 0 then ((zeroE, 3), t) else if (placeE t.l e.1).isSome = true then ((zeroE, 10), t) else
      if e.2.1 = 0 ∨ ownAt t.l i < e.2.1 ∨ t.base < e.2.2 then ((zeroE, 1), t) else (((t.getF s).1, 0), { t with l := withoutE t.l i ++ [(e.1, e.2.1, 0)] })) := by unfold TSt.swapF; rw [hp]
    by_cases hz : e.1.size = 0
    · rw [hT, if_pos hz]
      exact rfSwapForm H ht s e hp hz
    cases hd : placeE t.l e.1 with
    | some jd =>
      rw [hT, if_neg hz, if_pos (by rw [hd]; rfl)]
      exact rfSwapDup H ht s e hp hz hd
    | none =>
      by_cases hr : e.2.1 = 0 ∨ ownAt t.l i < e.2.1 ∨ t.base < e.2.2
      · rw [hT, if_neg hz, if_neg (by rw [hd]; simp), if_pos hr]
        exact rfSwapRange H ht s e hp hz hd he1 hr
      · rw [hT, if_neg hz, if_neg (by rw [hd]; simp), if_neg hr]
        exact rfSwapOk H ht s e hp hz hd he1 hr
end Go.Proofs.Ytgkokglngpbamaa

/- All that the statements use of the program's tables (Misra-Gries), as structures of contracts over a representation. Conditions: none beyond those typed. -/
namespace Go.Proofs.Ytgkokglngpbamaa
open Go.ChangeShapes Go.WideShapes Go.ChangeAt Go.RowKit
set_option linter.unusedVariables false
set_option linter.unusedSimpArgs false

/-- Table t lies in block g, with the base colour k. -/
abbrev RepF := Col → Nat → World → Nat → TSt → Prop
def DidPF (PT : RepF) (col : Col) (k : Nat) (w : World) (g : Nat) (t : TSt) (w' : World) : Prop := ∃ col', PT col' k w' g t ∧ StepC (Rng k) col w col' w'
def NewPF (PT : RepF) (col : Col) (k : Nat) (n : Int) (w : World) (e : Ending) (w' : World) : Prop :=
  (svE n = 0 ∧ ∃ g, e = .returned (.tuple #[.pointer (some ⟨g, 0, none⟩), .int .i64 0]) ∧ DidPF PT col k w g (newT n.toNat) w') ∨ (svE n = 1 ∧ e = .returned (.tuple #[.pointer none, .int .i64 1]) ∧ Below w.heap.size w w')
structure ProgF (PT : RepF) : Prop where
  keep : ∀ {P : Nat → Prop} {col col' : Col} {w w' : World} {k g : Nat} {t : TSt}, PT col k w g t → StepC P col w col' w' → (∀ c, Rng k c → ¬ P c) → ¬ P 0 → PT col' k w' g t
  good : ∀ {col : Col} {w : World} {k g : Nat} {t : TSt}, PT col k w g t → GoodF t
  new : ∀ {col : Col} {k : Nat} {w : World}, Tidy col w → 1 ≤ k → ∀ n : Int, J64 n → Calls Try.prog 8 #[.int .i64 n] w (NewPF PT col k n w)
  add : ∀ {col : Col} {k g : Nat} {w : World} {t : TSt}, PT col k w g t → Tidy col w → ∀ (s : ByteArray) (x : Int), Sz s → W64 x → Calls Try.prog 13 #[.pointer (some ⟨g, 0, none⟩), .string s, .int .u64 x] w fun e w' => e = .returned (.int .i64 (t.addF s x).1) ∧ DidPF PT col k w g (t.addF s x).2 w'
  get : ∀ {col : Col} {k g : Nat} {w : World} {t : TSt}, PT col k w g t → Tidy col w → ∀ s : ByteArray, Sz s → Calls Try.prog 10 #[.pointer (some ⟨g, 0, none⟩), .string s] w fun e w' => e = .returned (.tuple #[.agg (VE (t.getF s).1), .bool (t.getF s).2]) ∧ Below w.heap.size w w'
  take : ∀ {col : Col} {k g : Nat} {w : World} {t : TSt}, PT col k w g t → Tidy col w → ∀ s : ByteArray, Sz s → Calls Try.prog 11 #[.pointer (some ⟨g, 0, none⟩), .string s] w fun e w' => e = .returned (.tuple #[.agg (VE (t.getF s).1), .bool (t.getF s).2]) ∧ DidPF PT col k w g (t.take s) w'
  untr : ∀ {col : Col} {k g : Nat} {w : World} {t : TSt}, PT col k w g t → Tidy col w → Calls Try.prog 14 #[.pointer (some ⟨g, 0, none⟩)] w fun e w' => e = .returned (.int .u64 t.base) ∧ Below w.heap.size w w'
  total : ∀ {col : Col} {k g : Nat} {w : World} {t : TSt}, PT col k w g t → Tidy col w → Calls Try.prog 15 #[.pointer (some ⟨g, 0, none⟩)] w fun e w' => e = .returned (.int .u64 t.sum) ∧ Below w.heap.size w w'
  swap : ∀ {col : Col} {k g : Nat} {w : World} {t : TSt}, PT col k w g t → Tidy col w → ∀ (s : ByteArray) (e : En), Sz s → Sz e.1 → W64 e.2.1 → W64 e.2.2 → Calls Try.prog 12 #[.pointer (some ⟨g, 0, none⟩), .string s, .agg (VE e)] w fun r w' => r = .returned (.tuple #[.agg (VE (t.swapF s e).1.1), .int .i64 (t.swapF s e).1.2]) ∧ DidPF PT col k w g (t.swapF s e).2 w'
  len : ∀ {col : Col} {k g : Nat} {w : World} {t : TSt}, PT col k w g t → Tidy col w → Calls Try.prog 16 #[.pointer (some ⟨g, 0, none⟩)] w fun e w' => e = .returned (.int .i64 t.l.length) ∧ Below w.heap.size w w'
  entries : ∀ {col : Col} {k g : Nat} {w : World} {t : TSt}, PT col k w g t → Tidy col w → Calls Try.prog 17 #[.pointer (some ⟨g, 0, none⟩)] w (RowOut kEn w (sortE (t.l.map t.tellF)))
/-- What a nil table returns. -/
structure ProgFn : Prop where
  add : ∀ (w : World) (s : ByteArray) (x : Int), Calls Try.prog 13 #[.pointer none, .string s, .int .u64 x] w fun e w' => e = .returned (.int .i64 8) ∧ Below w.heap.size w w'
  get : ∀ (w : World) (s : ByteArray), Calls Try.prog 10 #[.pointer none, .string s] w fun e w' => ∃ x : En, e = .returned (.tuple #[.agg (VE x), .bool false]) ∧ Below w.heap.size w w'
  take : ∀ (w : World) (s : ByteArray), Calls Try.prog 11 #[.pointer none, .string s] w fun e w' => ∃ x : En, e = .returned (.tuple #[.agg (VE x), .bool false]) ∧ Below w.heap.size w w'
  swap : ∀ (w : World) (s : ByteArray) (x : En), Calls Try.prog 12 #[.pointer none, .string s, .agg (VE x)] w fun e w' => ∃ y : En, e = .returned (.tuple #[.agg (VE y), .int .i64 8]) ∧ Below w.heap.size w w'
  untr : ∀ w : World, Calls Try.prog 14 #[.pointer none] w fun e w' => e = .returned (.int .u64 0) ∧ Below w.heap.size w w'
  total : ∀ w : World, Calls Try.prog 15 #[.pointer none] w fun e w' => e = .returned (.int .u64 0) ∧ Below w.heap.size w w'
  len : ∀ w : World, Calls Try.prog 16 #[.pointer none] w fun e w' => e = .returned (.int .i64 0) ∧ Below w.heap.size w w'
  entries : ∀ w : World, Calls Try.prog 17 #[.pointer none] w fun e w' => ∃ A c, e = .returned (.slice A 0 c) ∧ Below w.heap.size w w'
/-- Nothing elder has turned, and a table. -/
structure AtF (PT : RepF) (w0 : World) (col : Col) (W : World) (k g : Nat) (t : TSt) : Prop where
  since : Since w0 col W
  pt : PT col k W g t
section
variable {PT : RepF} {w0 W W' : World} {col col' : Col} {k g : Nat} {t t' : TSt}
theorem ProgF.below (HP : ProgF PT) (h : PT col k W g t) (ht : Tidy col W) (hb : Below W.heap.size W W') : PT col k W' g t := HP.keep (P := fun _ => False) h (StepC.below ht hb) (fun _ _ h => h) (fun h => h)
theorem AtF.tidy (h : AtF PT w0 col W k g t) : Tidy col W := h.since.tidy
theorem AtF.below (HP : ProgF PT) (h : AtF PT w0 col W k g t) (hb : Below W.heap.size W W') : AtF PT w0 col W' k g t := ⟨h.since.belowL hb, HP.below h.pt h.tidy hb⟩
theorem AtF.did (h : AtF PT w0 col W k g t) (hk : 1 ≤ k) (hd : DidPF PT col k W g t' W') : ∃ col', AtF PT w0 col' W' k g t' := by
  obtain ⟨col', h1, s⟩ := hd
  exact ⟨col', h.since.step s (rng0 hk), h1⟩
end
end Go.Proofs.Ytgkokglngpbamaa
