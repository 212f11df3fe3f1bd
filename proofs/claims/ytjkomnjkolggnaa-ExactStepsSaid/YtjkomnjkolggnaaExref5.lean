/- The specified exact counters in memory: Put (written by wip/gen/s17put.py). Conditions: none beyond those typed. -/
import Derived.Test.YtjkomnjkolggnaaExref
import Derived.Test.YtjkomnjkolggnaaExsort
import Derived.Test.YtjkomnjkolggnaaQlate
import Derived.Test.YtjkomnjkolggnaaTm
import Derived.Deep.RegionHeld3
import Derived.Deep.CutRange
import Derived.BigRegion
namespace Go.Proofs.Ytjkomnjkolggnaa
open Go.ChangeShapes Go.WideShapes Go.ChangeAt Go.RowKit
set_option linter.unusedVariables false
set_option linter.unusedSimpArgs false
set_option maxRecDepth 100000

section
variable {P : Nat → Prop} {col col' : Col} {w w' : World} {k g : Nat} {t : ExSt}
set_option maxHeartbeats 4000000 in
theorem rxPut (H : RefX col k w g t) (ht : Tidy col w) (e : En) (he1 : 0 ≤ e.2.1 ∧ e.2.1 ≤ 18446744073709551615) (he2 : 0 ≤ e.2.2 ∧ e.2.2 ≤ 18446744073709551615) :
    Calls Try.prog 19 #[.pointer (some ⟨g, 0, none⟩), .agg #[.string e.1, .int .u64 e.2.1, .int .u64 e.2.2]] w fun r w' => r = .returned (.int .i64 (t.put e).1) ∧ DidRX col k w g (t.put e).2 w' := by
  have b0 : Below w.heap.size w (w.alloc (.cells #[.string e.1, .int .u64 e.2.1, .int .u64 e.2.2] 32)) := (Below.refl _ _).alloc (Nat.le_refl _) _
  have HD := Lib.hid (fun (W : World) (hb : Below w.heap.size w W) => show DidRX col k w g t W from ⟨col, H.below ht hb, StepC.below ht hb⟩)
  have X5 : BoxC col (w.alloc (.cells #[.string e.1, .int .u64 e.2.1, .int .u64 e.2.2] 32)) w.heap.size 0 (VE e) 32 := ⟨heap_alloc_new _ _, ht _ (Nat.le_refl _)⟩
  have T3 := ht.size b0.size
  have v0 : (w.alloc (.cells #[.string e.1, .int .u64 e.2.1, .int .u64 e.2.2] 32)).cell? ⟨w.heap.size, 0, none⟩ = some (.string e.1) := X5.cell 0 rfl
  by_cases hz : e.1.size = 0
  · have hb : e.1.toList.isEmpty = true := (ba_empty hz).1
    rw [putX_form hz]
    clear H X5 T3
    go_enter Try.func19, Try.ntmps19
    go_wp2
    go_ret
    exact ⟨rfl, HD.out _ b0⟩
  have hb : e.1.toList.isEmpty = false := ba_some (by omega)
  have H3 := H.below ht b0
  obtain ⟨W3, hW3⟩ : ∃ W3, W3 = w.alloc (.cells #[.string e.1, .int .u64 e.2.1, .int .u64 e.2.2] 32) := ⟨_, rfl⟩
  obtain ⟨G5, hG5⟩ : ∃ G5, w.heap.size = G5 := ⟨_, rfl⟩
  have hv0 := v0
  rw [← hW3, hG5] at X5 hv0
  rw [← hW3] at H3 T3 b0
  obtain ⟨hGd, A, c, HB3⟩ := H3
  obtain ⟨n, hn⟩ : ∃ n, t.l.length = n := ⟨_, rfl⟩
  have hn6 : n ≤ 32 := by have := hGd.len; have := hGd.n1; omega
  have y2 : W3.cell? ⟨g, 1, none⟩ = some (.slice A n c) := by rw [← hn]; exact HB3.box.cell 1 rfl
  have hRow : RdG kEn W3 A n c t.l := by rw [← hn]; exact HB3.row.own.reads
  have hPl := fun (W : World) (hb : Below W3.heap.size W3 W) => place_any (hRow.below hb) (by omega) e.1
  unfold placeI at hPl
  have hSP : ∀ W, Below W3.heap.size W3 W → (fun w' => w'.cell? ⟨g, 1, none⟩ = some (.slice A n c) ∧ w'.cell? ⟨G5, 0, none⟩ = some (.string e.1)) W := fun W B => ⟨(cellB y2 B).1, (cellB hv0 B).1⟩
  cases hp : placeE t.l e.1 with
  | some jd =>
    rw [hp] at hPl
    rw [putX_dup hz hp]
    have hjd : (0 : Int) ≤ (jd : Int) := by omega
    clear HB3 hRow X5 hp
    go_enter Try.func19, Try.ntmps19
    go_upto_region 3 with fail
    rw [← hW3]
    try rw [hG5]
    clear hW3
    refine wp_region_noPanic ?_
    refine wp_region_late (fun w' => w'.cell? ⟨g, 1, none⟩ = some (.slice A n c) ∧ w'.cell? ⟨G5, 0, none⟩ = some (.string e.1)) (fun j => [0, 1, 2, 4].contains j) (by kernel_rfl) ?_
    intro u0 hu0
    have B0 : Below W3.heap.size W3 u0 := by rw [← hu0]; exact bdM _
    have hS := hSP _ B0
    clear hu0
    refine wpAnyL_takeY 0 _ (.pointer (some ⟨g, 0, none⟩)) rfl (by kernel_rfl) (by kernel_rfl) (by kernel_rfl) (by kernel_rfl) (fun _ _ _ h => h) (Or.inl ⟨by rfl, ?_⟩) ?_
    · intro w'; go_simp
    simp only [Act.put, List.setIfInBounds_toArray, List.set_cons_zero, List.set_cons_succ]
    refine wpAnyL_takeY 1 _ (.pointer (some ⟨g, 0, none⟩)) rfl (by kernel_rfl) (by kernel_rfl) (by kernel_rfl) (by kernel_rfl) (fun _ _ _ h => h) (Or.inl ⟨by rfl, ?_⟩) ?_
    · intro w'; go_simp
    simp only [Act.put, List.setIfInBounds_toArray, List.set_cons_zero, List.set_cons_succ]
    refine wpAnyL_takeY 2 _ (.pointer (some ⟨g, 1, none⟩)) rfl (by kernel_rfl) (by kernel_rfl) (by kernel_rfl) (by kernel_rfl) (fun _ _ _ h => h) (Or.inl ⟨by rfl, ?_⟩) ?_
    · intro w'; go_simp
    simp only [Act.put, List.setIfInBounds_toArray, List.set_cons_zero, List.set_cons_succ]
    refine wpAnyL_takeY 4 _ (.pointer (some ⟨G5, 0, none⟩)) rfl (by kernel_rfl) (by kernel_rfl) (by kernel_rfl) (by kernel_rfl) (fun _ _ _ h => h) (Or.inl ⟨by rfl, ?_⟩) ?_
    · intro w'; go_simp
    simp only [Act.put, List.setIfInBounds_toArray, List.set_cons_zero, List.set_cons_succ]
    refine wpAnyL_take 3 _ (.slice A n c) rfl (by kernel_rfl) (by kernel_rfl) (by kernel_rfl) (by kernel_rfl) (fun _ _ _ h => h) (Or.inl ⟨by rfl, ?_⟩) hS ?_
    · rintro w' ⟨hS0, hS1⟩; go_simp
    simp only [Act.put, List.setIfInBounds_toArray, List.set_cons_zero, List.set_cons_succ]
    refine wpAnyL_take 5 _ (.string e.1) rfl (by kernel_rfl) (by kernel_rfl) (by kernel_rfl) (by kernel_rfl) (fun _ _ _ h => h) (Or.inl ⟨by rfl, ?_⟩) hS ?_
    · rintro w' ⟨hS0, hS1⟩; go_simp
    simp only [Act.put, List.setIfInBounds_toArray, List.set_cons_zero, List.set_cons_succ]
    clear hS
    refine wpAnyL_all [6] (by kernel_rfl) (by simp) ?_
    refine (lateCons ?_ lateNil)
    refine wpOpL_step _ rfl (fun K' hK => ?_)
    go_simp
    refine (hPl _ B0).mono ?_
    rintro eR u1 ⟨rfl, bp⟩
    have B1 := below_then B0 bp
    refine hK.out _ _ (fun _ => hSP _ B1) ?_
    clear hK K'
    try simp only [Act.put, List.setIfInBounds_toArray, List.set_cons_zero, List.set_cons_succ]
    clear bp B0
    refine wpAnyL_take 7 _ (.bool true) rfl (by kernel_rfl) (by kernel_rfl) (by kernel_rfl) (by kernel_rfl) (fun _ _ _ h => h) (Or.inl ⟨by rfl, ?_⟩) (hSP _ B1) ?_
    · rintro w' ⟨hS0, hS1⟩; go_simp
    simp only [Act.put, List.setIfInBounds_toArray, List.set_cons_zero, List.set_cons_succ]
    refine wpAnyL_take 8 _ (.bool true) rfl (by kernel_rfl) (by kernel_rfl) (by kernel_rfl) (by kernel_rfl) (fun _ _ _ h => h) (Or.inl ⟨by rfl, ?_⟩) (hSP _ B1) ?_
    · rintro w' ⟨hS0, hS1⟩; go_simp
    simp only [Act.put, List.setIfInBounds_toArray, List.set_cons_zero, List.set_cons_succ]
    refine wpAnyL_done (by kernel_rfl) ?_ _
    dsimp only [NoPanic]
    have HF := Lib.hid (HD.out _ (below_then b0 B1))
    clear hPl hSP B1 b0 HD
    go_wp2
    go_ret
    exact ⟨rfl, HF.out⟩
  | none =>
    rw [hp] at hPl
    obtain ⟨r, hrr⟩ : ∃ r, t.put e = r := ⟨_, rfl⟩
    rw [hrr]
    have HR := Lib.hid hrr
    clear hrr
    have H5 := Lib.hid X5
    have HH := Lib.hid H
    clear HB3 hRow X5
    go_enter Try.func19, Try.ntmps19
    go_upto_region 3 with fail
    rw [← hW3]
    try rw [hG5]
    clear hW3
    refine wp_region_noPanic ?_
    refine wp_region_late (fun w' => w'.cell? ⟨g, 1, none⟩ = some (.slice A n c) ∧ w'.cell? ⟨G5, 0, none⟩ = some (.string e.1)) (fun j => [0, 1, 2, 4].contains j) (by kernel_rfl) ?_
    intro u0 hu0
    have B0 : Below W3.heap.size W3 u0 := by rw [← hu0]; exact bdM _
    have hS := hSP _ B0
    clear hu0
    refine wpAnyL_takeY 0 _ (.pointer (some ⟨g, 0, none⟩)) rfl (by kernel_rfl) (by kernel_rfl) (by kernel_rfl) (by kernel_rfl) (fun _ _ _ h => h) (Or.inl ⟨by rfl, ?_⟩) ?_
    · intro w'; go_simp
    simp only [Act.put, List.setIfInBounds_toArray, List.set_cons_zero, List.set_cons_succ]
    refine wpAnyL_takeY 1 _ (.pointer (some ⟨g, 0, none⟩)) rfl (by kernel_rfl) (by kernel_rfl) (by kernel_rfl) (by kernel_rfl) (fun _ _ _ h => h) (Or.inl ⟨by rfl, ?_⟩) ?_
    · intro w'; go_simp
    simp only [Act.put, List.setIfInBounds_toArray, List.set_cons_zero, List.set_cons_succ]
    refine wpAnyL_takeY 2 _ (.pointer (some ⟨g, 1, none⟩)) rfl (by kernel_rfl) (by kernel_rfl) (by kernel_rfl) (by kernel_rfl) (fun _ _ _ h => h) (Or.inl ⟨by rfl, ?_⟩) ?_
    · intro w'; go_simp
    simp only [Act.put, List.setIfInBounds_toArray, List.set_cons_zero, List.set_cons_succ]
    refine wpAnyL_takeY 4 _ (.pointer (some ⟨G5, 0, none⟩)) rfl (by kernel_rfl) (by kernel_rfl) (by kernel_rfl) (by kernel_rfl) (fun _ _ _ h => h) (Or.inl ⟨by rfl, ?_⟩) ?_
    · intro w'; go_simp
    simp only [Act.put, List.setIfInBounds_toArray, List.set_cons_zero, List.set_cons_succ]
    refine wpAnyL_take 3 _ (.slice A n c) rfl (by kernel_rfl) (by kernel_rfl) (by kernel_rfl) (by kernel_rfl) (fun _ _ _ h => h) (Or.inl ⟨by rfl, ?_⟩) hS ?_
    · rintro w' ⟨hS0, hS1⟩; go_simp
    simp only [Act.put, List.setIfInBounds_toArray, List.set_cons_zero, List.set_cons_succ]
    refine wpAnyL_take 5 _ (.string e.1) rfl (by kernel_rfl) (by kernel_rfl) (by kernel_rfl) (by kernel_rfl) (fun _ _ _ h => h) (Or.inl ⟨by rfl, ?_⟩) hS ?_
    · rintro w' ⟨hS0, hS1⟩; go_simp
    simp only [Act.put, List.setIfInBounds_toArray, List.set_cons_zero, List.set_cons_succ]
    clear hS
    refine wpAnyL_all [6] (by kernel_rfl) (by simp) ?_
    refine (lateCons ?_ lateNil)
    refine wpOpL_step _ rfl (fun K' hK => ?_)
    go_simp
    refine (hPl _ B0).mono ?_
    rintro eR u1 ⟨rfl, bp⟩
    have B1 := below_then B0 bp
    refine hK.out _ _ (fun _ => hSP _ B1) ?_
    clear hK K'
    try simp only [Act.put, List.setIfInBounds_toArray, List.set_cons_zero, List.set_cons_succ]
    clear bp B0
    refine wpAnyL_take 7 _ (.bool false) rfl (by kernel_rfl) (by kernel_rfl) (by kernel_rfl) (by kernel_rfl) (fun _ _ _ h => h) (Or.inl ⟨by rfl, ?_⟩) (hSP _ B1) ?_
    · rintro w' ⟨hS0, hS1⟩; go_simp
    simp only [Act.put, List.setIfInBounds_toArray, List.set_cons_zero, List.set_cons_succ]
    refine wpAnyL_take 8 _ (.bool false) rfl (by kernel_rfl) (by kernel_rfl) (by kernel_rfl) (by kernel_rfl) (fun _ _ _ h => h) (Or.inl ⟨by rfl, ?_⟩) (hSP _ B1) ?_
    · rintro w' ⟨hS0, hS1⟩; go_simp
    simp only [Act.put, List.setIfInBounds_toArray, List.set_cons_zero, List.set_cons_succ]
    refine wpAnyL_done (by kernel_rfl) ?_ _
    dsimp only [NoPanic]
    have b3 := below_then b0 B1
    have HFu := rxFull (HH.out.below ht b3)
    have X6 := H5.out.keepB B1 H5.out.lt
    clear hPl hSP B1 b0 v0 hv0 y2
    by_cases hl : t.l.length = t.n
    · rw [decide_eq_true hl] at HFu
      have HQ := Lib.hid (show r = (7, t) by rw [← HR.out]; exact putX_full hz hp hl)
      clear HR
      go_wp2_with fail
      refine HFu.mono ?_
      rintro eR u2 ⟨rfl, b4⟩
      have HF := Lib.hid (HD.out _ (below_then b3 b4))
      clear HFu b3 b4 HD X6
      go_wp2
      go_ret
      rw [HQ.out]
      exact ⟨rfl, HF.out⟩
    rw [decide_eq_false hl] at HFu
    go_wp2_with fail
    refine HFu.mono ?_
    rintro eR u2 ⟨rfl, b4⟩
    have b5 := below_then b3 b4
    have X7 := X6.keepB b4 X6.lt
    clear HFu b3 b4 X6
    have v1 : u2.cell? ⟨G5, 1, none⟩ = some (.int .u64 e.2.1) := X7.cell 1 rfl
    have v2 : u2.cell? ⟨G5, 2, none⟩ = some (.int .u64 e.2.2) := X7.cell 2 rfl
    have hEx := exact_any e.2.1 e.2.2 9223372036854775808 he1 ⟨by omega, by omega⟩ u2
    cases hr : roomX e with
    | false =>
      have HQ := Lib.hid (show r = (12, t) by rw [← HR.out]; exact putX_over hz hp hl hr)
      clear HR
      rw [show decide (e.2.1 ≤ 9223372036854775808 ∧ e.2.2 ≤ 9223372036854775808 - e.2.1) = false from hr] at hEx
      go_wp2_with fail
      refine hEx.mono ?_
      rintro eR u3 ⟨rfl, hu⟩
      subst hu
      have HF := Lib.hid (HD.out _ b5)
      clear hEx b5 HD X7
      go_wp2
      go_ret
      rw [HQ.out]
      exact ⟨rfl, HF.out⟩
    | true =>
      have HG := Lib.hid (show GoodX { t with l := sortE (t.l ++ [e]) } by have := hGd.put he1.1 he2.1; rw [putX_ok hz hp hl hr] at this; exact this)
      have HQ := Lib.hid (show r = (0, { t with l := sortE (t.l ++ [e]) }) by rw [← HR.out]; exact putX_ok hz hp hl hr)
      clear HR
      rw [show decide (e.2.1 ≤ 9223372036854775808 ∧ e.2.2 ≤ 9223372036854775808 - e.2.1) = true from hr] at hEx
      go_wp2_with fail
      refine hEx.mono ?_
      rintro eR u3 ⟨rfl, hu⟩
      subst hu
      clear hEx
      go_upto_region 9 with fail
      have HS := Lib.hid (StepC.below (P := Rng k) ht b5)
      have T1 := ht.size b5.size
      obtain ⟨_, A, c, HB4⟩ := HH.out.below ht b5
      have v0 : u2.cell? ⟨G5, 0, none⟩ = some (.string e.1) := X7.cell 0 rfl
      have y1 : u2.cell? ⟨g, 1, none⟩ = some (.slice A n c) := by rw [← hn]; exact HB4.box.cell 1 rfl
      have Rw : RdG kEn u2 A n c t.l := by rw [← hn]; exact HB4.row.own.reads
      have HB := Lib.hid HB4
      have hby1 : ([] : List En).length + n ≤ 1000000000 := by simp; omega
      have hly1 : ([] ++ t.l).length = n := by simp; omega
      have hby2 : ([] ++ t.l).length + 1 ≤ 1000000000 := by simp; omega
      have hly2 : ([] ++ t.l ++ [e]).length = n + 1 := by simp; omega
      have HL := Lib.hid (show (sortE (t.l ++ [e])).length = n + 1 by rw [sortE_len]; simp; omega)
      clear HB4 X7 H5 HH HD b5 H hGd hp hl hr
      generalize u2 = W4 at *
      have hSP : ∀ W, Below W4.heap.size W4 W → (fun w' => w'.cell? ⟨g, 1, none⟩ = some (.slice A n c) ∧ w'.cell? ⟨G5, 0, none⟩ = some (.string e.1) ∧ w'.cell? ⟨G5, 1, none⟩ = some (.int .u64 e.2.1) ∧ w'.cell? ⟨G5, 2, none⟩ = some (.int .u64 e.2.2)) W := fun W B => ⟨(cellB y1 B).1, (cellB v0 B).1, (cellB v1 B).1, (cellB v2 B).1⟩
      refine wp_region_noPanic ?_
      refine wp_region_late (fun w' => w'.cell? ⟨g, 1, none⟩ = some (.slice A n c) ∧ w'.cell? ⟨G5, 0, none⟩ = some (.string e.1) ∧ w'.cell? ⟨G5, 1, none⟩ = some (.int .u64 e.2.1) ∧ w'.cell? ⟨G5, 2, none⟩ = some (.int .u64 e.2.2)) (fun j => [0, 2, 3, 4, 11, 12, 13].contains j) (by kernel_rfl) ?_
      intro u0 hu0
      have B0 : Below W4.heap.size W4 u0 := by rw [← hu0]; exact bdM _
      have hS := hSP _ B0
      clear hu0
      refine wpAnyL_takeY 0 _ (.pointer (some ⟨g, 0, none⟩)) rfl (by kernel_rfl) (by kernel_rfl) (by kernel_rfl) (by kernel_rfl) (fun _ _ _ h => h) (Or.inl ⟨by rfl, ?_⟩) ?_
      · intro w'; go_simp
      simp only [Act.put, List.setIfInBounds_toArray, List.set_cons_zero, List.set_cons_succ]
      refine wpAnyL_takeY 2 _ (.pointer (some ⟨g, 0, none⟩)) rfl (by kernel_rfl) (by kernel_rfl) (by kernel_rfl) (by kernel_rfl) (fun _ _ _ h => h) (Or.inl ⟨by rfl, ?_⟩) ?_
      · intro w'; go_simp
      simp only [Act.put, List.setIfInBounds_toArray, List.set_cons_zero, List.set_cons_succ]
      refine wpAnyL_takeY 3 _ (.pointer (some ⟨g, 0, none⟩)) rfl (by kernel_rfl) (by kernel_rfl) (by kernel_rfl) (by kernel_rfl) (fun _ _ _ h => h) (Or.inl ⟨by rfl, ?_⟩) ?_
      · intro w'; go_simp
      simp only [Act.put, List.setIfInBounds_toArray, List.set_cons_zero, List.set_cons_succ]
      refine wpAnyL_takeY 4 _ (.pointer (some ⟨g, 1, none⟩)) rfl (by kernel_rfl) (by kernel_rfl) (by kernel_rfl) (by kernel_rfl) (fun _ _ _ h => h) (Or.inl ⟨by rfl, ?_⟩) ?_
      · intro w'; go_simp
      simp only [Act.put, List.setIfInBounds_toArray, List.set_cons_zero, List.set_cons_succ]
      refine wpAnyL_take 5 _ (.slice A n c) rfl (by kernel_rfl) (by kernel_rfl) (by kernel_rfl) (by kernel_rfl) (fun _ _ _ h => h) (Or.inl ⟨by rfl, ?_⟩) hS ?_
      · rintro w' ⟨hS0, hS1, hS2, hS3⟩; go_simp
      simp only [Act.put, List.setIfInBounds_toArray, List.set_cons_zero, List.set_cons_succ]
      refine wpAnyL_take 7 _ (.agg #[.string e.1, .int .u64 e.2.1, .int .u64 e.2.2]) rfl (by kernel_rfl) (by kernel_rfl) (by kernel_rfl) (by kernel_rfl) (fun _ _ _ h => h) (Or.inl ⟨by rfl, ?_⟩) hS ?_
      · rintro w' ⟨hS0, hS1, hS2, hS3⟩; go_simp
      simp only [Act.put, List.setIfInBounds_toArray, List.set_cons_zero, List.set_cons_succ]
      clear hS
      refine wpAnyL_all [1, 8] (by kernel_rfl) (by simp) ?_
      refine (lateCons ?_ (lateCons ?_ lateNil))
      · refine wpOpL_step _ rfl (fun K' hK => ?_)
        refine emptyThen kEn (t := 32) rfl B0 ?_
        intro u1 pE e1 e2 R1 k1
        have B1 := R1.bel
        go_simp
        try rw [e1]
        try rw [e2]
        refine hK.out _ _ (fun _ => hSP _ B1) ?_
        clear hK K'
        try simp only [Act.put, List.setIfInBounds_toArray, List.set_cons_zero, List.set_cons_succ]
        clear k1 B0
        refine wpAnyL_all [6, 8] (by kernel_rfl) (by simp) ?_
        refine (lateCons ?_ (lateCons ?_ lateNil))
        · refine wpOpL_step _ rfl (fun K' hK => ?_)
          refine R1.step rfl (.tmp 29) (.tmp 33) rfl rfl _ _ _ _ rfl (Rw.below R1.bel) hby1 hly1 ?_
          intro A2 d2 u2 R2 k2
          have B2 := R2.bel
          clear R1
          refine hK.out _ _ (fun _ => hSP _ B2) ?_
          clear hK K'
          try simp only [Act.put, List.setIfInBounds_toArray, List.set_cons_zero, List.set_cons_succ]
          clear k2 B1
          refine wpAnyL_all [8] (by kernel_rfl) (by simp) ?_
          refine (lateCons ?_ lateNil)
          · refine wpOpL_step _ rfl (fun K' hK => ?_)
            refine litThen kEn e (cs := #[.string e.1, .int .u64 e.2.1, .int .u64 e.2.2]) rfl (t := 32) rfl B2 ?_
            intro u3 pL e1 e2 B3 L k3
            refine (k3 _ _ R2).elim ?_
            intro R3 Ln
            clear R2
            go_simp
            try rw [e1]
            try rw [e2]
            refine hK.out _ _ (fun _ => hSP _ B3) ?_
            clear hK K'
            try simp only [Act.put, List.setIfInBounds_toArray, List.set_cons_zero, List.set_cons_succ]
            clear k3 B2
            refine wpAnyL_all [9] (by kernel_rfl) (by simp) ?_
            refine (lateCons ?_ lateNil)
            · refine wpOpL_step _ rfl (fun K' hK => ?_)
              refine R3.step rfl (.tmp 34) (.tmp 36) rfl rfl _ _ _ _ rfl L hby2 hly2 ?_
              intro A4 d4 u4 R4 k4
              have B4 := R4.bel
              clear L R3
              refine hK.out _ _ (fun _ => hSP _ B4) ?_
              clear hK K'
              try simp only [Act.put, List.setIfInBounds_toArray, List.set_cons_zero, List.set_cons_succ]
              clear k4 B3
              refine wpAnyL_all [10] (by kernel_rfl) (by simp) ?_
              refine (lateCons ?_ lateNil)
              refine wpOpL_step _ rfl (fun K' hK => ?_)
              go_simp
              refine (sorted_own R4.own.reads (by omega)).mono ?_
              rintro eR u9 ⟨A9, c9, rfl, O9, N9, bw⟩
              have B9 := below_then B4 bw
              refine hK.out _ _ (fun _ => hSP _ B9) ?_
              clear hK K'
              try simp only [Act.put, List.setIfInBounds_toArray, List.set_cons_zero, List.set_cons_succ]
              have HO : Hid (OwnK kEn u9 (.slice A9 (n + 1) c9) (sortE (t.l ++ [e]))) := Lib.hid O9
              have HN9 : Hid (New W4 (.slice A9 (n + 1) c9)) := Lib.hid fun q hq => Nat.le_trans B4.size (N9 q hq)
              clear bw O9 N9 R4 B4
              have f0 := (HB.out.below T1 B9).box.free 1
              have c0 := (cellB y1 B9).1
              refine wpAnyL_takeY 11 _ (.pointer (some ⟨g, 0, none⟩)) rfl (by kernel_rfl) (by kernel_rfl) (by kernel_rfl) (by kernel_rfl) (fun _ _ _ h => h) (Or.inl ⟨by rfl, ?_⟩) ?_
              · intro w'; go_simp
              simp only [Act.put, List.setIfInBounds_toArray, List.set_cons_zero, List.set_cons_succ]
              refine wpAnyL_takeY 12 _ (.pointer (some ⟨g, 1, none⟩)) rfl (by kernel_rfl) (by kernel_rfl) (by kernel_rfl) (by kernel_rfl) (fun _ _ _ h => h) (Or.inl ⟨by rfl, ?_⟩) ?_
              · intro w'; go_simp
              simp only [Act.put, List.setIfInBounds_toArray, List.set_cons_zero, List.set_cons_succ]
              refine wpAnyL_all [13] (by kernel_rfl) (by simp) ?_
              refine (lateCons ?_ lateNil)
              refine wpOpL_step _ rfl (fun K' hK => ?_)
              go_simp
              refine hK.out _ _ (fun h => absurd h (by decide)) ?_
              clear hK K'
              try simp only [Act.put, List.setIfInBounds_toArray, List.set_cons_zero, List.set_cons_succ]
              refine wpAnyL_done (by kernel_rfl) ?_ _
              dsimp only [NoPanic]
              obtain ⟨col5, M5, S5⟩ := HB.out.newRow T1 B9 HL.out HO.out HN9.out
              have HD := Lib.hid (show DidRX col k w g _ _ from ⟨_, ⟨HG.out, _, _, M5⟩, HS.out.trans S5⟩)
              clear M5 S5 HO HN9 B9 f0 c0 y1
              go_wp2
              go_ret
              rw [HQ.out]
              exact ⟨rfl, HD.out⟩
        · refine wpOpL_step _ rfl (fun K' hK => ?_)
          refine litThen kEn e (cs := #[.string e.1, .int .u64 e.2.1, .int .u64 e.2.2]) rfl (t := 32) rfl B1 ?_
          intro u2 pL e1 e2 B2 L k2
          refine (k2 _ _ R1).elim ?_
          intro R2 Ln
          clear R1
          go_simp
          try rw [e1]
          try rw [e2]
          refine hK.out _ _ (fun _ => hSP _ B2) ?_
          clear hK K'
          try simp only [Act.put, List.setIfInBounds_toArray, List.set_cons_zero, List.set_cons_succ]
          clear k2 B1
          refine wpAnyL_all [6] (by kernel_rfl) (by simp) ?_
          refine (lateCons ?_ lateNil)
          · refine wpOpL_step _ rfl (fun K' hK => ?_)
            refine R2.step rfl (.tmp 29) (.tmp 33) rfl rfl _ _ _ _ rfl (Rw.below R2.bel) hby1 hly1 ?_
            intro A3 d3 u3 R3 k3
            have B3 := R3.bel
            have L := k3 _ _ _ _ L Ln
            clear Ln
            clear R2
            refine hK.out _ _ (fun _ => hSP _ B3) ?_
            clear hK K'
            try simp only [Act.put, List.setIfInBounds_toArray, List.set_cons_zero, List.set_cons_succ]
            clear k3 B2
            refine wpAnyL_all [9] (by kernel_rfl) (by simp) ?_
            refine (lateCons ?_ lateNil)
            · refine wpOpL_step _ rfl (fun K' hK => ?_)
              refine R3.step rfl (.tmp 34) (.tmp 36) rfl rfl _ _ _ _ rfl L hby2 hly2 ?_
              intro A4 d4 u4 R4 k4
              have B4 := R4.bel
              clear L R3
              refine hK.out _ _ (fun _ => hSP _ B4) ?_
              clear hK K'
              try simp only [Act.put, List.setIfInBounds_toArray, List.set_cons_zero, List.set_cons_succ]
              clear k4 B3
              refine wpAnyL_all [10] (by kernel_rfl) (by simp) ?_
              refine (lateCons ?_ lateNil)
              refine wpOpL_step _ rfl (fun K' hK => ?_)
              go_simp
              refine (sorted_own R4.own.reads (by omega)).mono ?_
              rintro eR u9 ⟨A9, c9, rfl, O9, N9, bw⟩
              have B9 := below_then B4 bw
              refine hK.out _ _ (fun _ => hSP _ B9) ?_
              clear hK K'
              try simp only [Act.put, List.setIfInBounds_toArray, List.set_cons_zero, List.set_cons_succ]
              have HO : Hid (OwnK kEn u9 (.slice A9 (n + 1) c9) (sortE (t.l ++ [e]))) := Lib.hid O9
              have HN9 : Hid (New W4 (.slice A9 (n + 1) c9)) := Lib.hid fun q hq => Nat.le_trans B4.size (N9 q hq)
              clear bw O9 N9 R4 B4
              have f0 := (HB.out.below T1 B9).box.free 1
              have c0 := (cellB y1 B9).1
              refine wpAnyL_takeY 11 _ (.pointer (some ⟨g, 0, none⟩)) rfl (by kernel_rfl) (by kernel_rfl) (by kernel_rfl) (by kernel_rfl) (fun _ _ _ h => h) (Or.inl ⟨by rfl, ?_⟩) ?_
              · intro w'; go_simp
              simp only [Act.put, List.setIfInBounds_toArray, List.set_cons_zero, List.set_cons_succ]
              refine wpAnyL_takeY 12 _ (.pointer (some ⟨g, 1, none⟩)) rfl (by kernel_rfl) (by kernel_rfl) (by kernel_rfl) (by kernel_rfl) (fun _ _ _ h => h) (Or.inl ⟨by rfl, ?_⟩) ?_
              · intro w'; go_simp
              simp only [Act.put, List.setIfInBounds_toArray, List.set_cons_zero, List.set_cons_succ]
              refine wpAnyL_all [13] (by kernel_rfl) (by simp) ?_
              refine (lateCons ?_ lateNil)
              refine wpOpL_step _ rfl (fun K' hK => ?_)
              go_simp
              refine hK.out _ _ (fun h => absurd h (by decide)) ?_
              clear hK K'
              try simp only [Act.put, List.setIfInBounds_toArray, List.set_cons_zero, List.set_cons_succ]
              refine wpAnyL_done (by kernel_rfl) ?_ _
              dsimp only [NoPanic]
              obtain ⟨col5, M5, S5⟩ := HB.out.newRow T1 B9 HL.out HO.out HN9.out
              have HD := Lib.hid (show DidRX col k w g _ _ from ⟨_, ⟨HG.out, _, _, M5⟩, HS.out.trans S5⟩)
              clear M5 S5 HO HN9 B9 f0 c0 y1
              go_wp2
              go_ret
              rw [HQ.out]
              exact ⟨rfl, HD.out⟩
      · refine wpOpL_step _ rfl (fun K' hK => ?_)
        refine litThen kEn e (cs := #[.string e.1, .int .u64 e.2.1, .int .u64 e.2.2]) rfl (t := 32) rfl B0 ?_
        intro u1 pL e1 e2 B1 L k1
        go_simp
        try rw [e1]
        try rw [e2]
        refine hK.out _ _ (fun _ => hSP _ B1) ?_
        clear hK K'
        try simp only [Act.put, List.setIfInBounds_toArray, List.set_cons_zero, List.set_cons_succ]
        clear k1 B0
        refine wpAnyL_all [1] (by kernel_rfl) (by simp) ?_
        refine (lateCons ?_ lateNil)
        · refine wpOpL_step _ rfl (fun K' hK => ?_)
          refine emptyThen kEn (t := 32) rfl B1 ?_
          intro u2 pE e1 e2 R2 k2
          have B2 := R2.bel
          have Lb := RdG.inB L
          have Ln : (Value.slice (some ⟨pE, 0, none⟩) 0 0).ownBlock ≠ some pL := by rw [← e2]; exact lit_ne (by omega)
          have L := k2 _ _ _ _ L
          clear Lb
          go_simp
          try rw [e1]
          try rw [e2]
          refine hK.out _ _ (fun _ => hSP _ B2) ?_
          clear hK K'
          try simp only [Act.put, List.setIfInBounds_toArray, List.set_cons_zero, List.set_cons_succ]
          clear k2 B1
          refine wpAnyL_all [6] (by kernel_rfl) (by simp) ?_
          refine (lateCons ?_ lateNil)
          · refine wpOpL_step _ rfl (fun K' hK => ?_)
            refine R2.step rfl (.tmp 29) (.tmp 33) rfl rfl _ _ _ _ rfl (Rw.below R2.bel) hby1 hly1 ?_
            intro A3 d3 u3 R3 k3
            have B3 := R3.bel
            have L := k3 _ _ _ _ L Ln
            clear Ln
            clear R2
            refine hK.out _ _ (fun _ => hSP _ B3) ?_
            clear hK K'
            try simp only [Act.put, List.setIfInBounds_toArray, List.set_cons_zero, List.set_cons_succ]
            clear k3 B2
            refine wpAnyL_all [9] (by kernel_rfl) (by simp) ?_
            refine (lateCons ?_ lateNil)
            · refine wpOpL_step _ rfl (fun K' hK => ?_)
              refine R3.step rfl (.tmp 34) (.tmp 36) rfl rfl _ _ _ _ rfl L hby2 hly2 ?_
              intro A4 d4 u4 R4 k4
              have B4 := R4.bel
              clear L R3
              refine hK.out _ _ (fun _ => hSP _ B4) ?_
              clear hK K'
              try simp only [Act.put, List.setIfInBounds_toArray, List.set_cons_zero, List.set_cons_succ]
              clear k4 B3
              refine wpAnyL_all [10] (by kernel_rfl) (by simp) ?_
              refine (lateCons ?_ lateNil)
              refine wpOpL_step _ rfl (fun K' hK => ?_)
              go_simp
              refine (sorted_own R4.own.reads (by omega)).mono ?_
              rintro eR u9 ⟨A9, c9, rfl, O9, N9, bw⟩
              have B9 := below_then B4 bw
              refine hK.out _ _ (fun _ => hSP _ B9) ?_
              clear hK K'
              try simp only [Act.put, List.setIfInBounds_toArray, List.set_cons_zero, List.set_cons_succ]
              have HO : Hid (OwnK kEn u9 (.slice A9 (n + 1) c9) (sortE (t.l ++ [e]))) := Lib.hid O9
              have HN9 : Hid (New W4 (.slice A9 (n + 1) c9)) := Lib.hid fun q hq => Nat.le_trans B4.size (N9 q hq)
              clear bw O9 N9 R4 B4
              have f0 := (HB.out.below T1 B9).box.free 1
              have c0 := (cellB y1 B9).1
              refine wpAnyL_takeY 11 _ (.pointer (some ⟨g, 0, none⟩)) rfl (by kernel_rfl) (by kernel_rfl) (by kernel_rfl) (by kernel_rfl) (fun _ _ _ h => h) (Or.inl ⟨by rfl, ?_⟩) ?_
              · intro w'; go_simp
              simp only [Act.put, List.setIfInBounds_toArray, List.set_cons_zero, List.set_cons_succ]
              refine wpAnyL_takeY 12 _ (.pointer (some ⟨g, 1, none⟩)) rfl (by kernel_rfl) (by kernel_rfl) (by kernel_rfl) (by kernel_rfl) (fun _ _ _ h => h) (Or.inl ⟨by rfl, ?_⟩) ?_
              · intro w'; go_simp
              simp only [Act.put, List.setIfInBounds_toArray, List.set_cons_zero, List.set_cons_succ]
              refine wpAnyL_all [13] (by kernel_rfl) (by simp) ?_
              refine (lateCons ?_ lateNil)
              refine wpOpL_step _ rfl (fun K' hK => ?_)
              go_simp
              refine hK.out _ _ (fun h => absurd h (by decide)) ?_
              clear hK K'
              try simp only [Act.put, List.setIfInBounds_toArray, List.set_cons_zero, List.set_cons_succ]
              refine wpAnyL_done (by kernel_rfl) ?_ _
              dsimp only [NoPanic]
              obtain ⟨col5, M5, S5⟩ := HB.out.newRow T1 B9 HL.out HO.out HN9.out
              have HD := Lib.hid (show DidRX col k w g _ _ from ⟨_, ⟨HG.out, _, _, M5⟩, HS.out.trans S5⟩)
              clear M5 S5 HO HN9 B9 f0 c0 y1
              go_wp2
              go_ret
              rw [HQ.out]
              exact ⟨rfl, HD.out⟩
end
end Go.Proofs.Ytjkomnjkolggnaa
