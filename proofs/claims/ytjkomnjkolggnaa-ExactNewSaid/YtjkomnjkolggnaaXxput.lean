/- The program's exact counters: Put. Conditions: none beyond those typed. -/
import Derived.Test.YtjkomnjkolggnaaXxadd
import Derived.Test.YtjkomnjkolggnaaKclone
import Derived.Test.YtjkomnjkolggnaaQlate
import Derived.Test.YtjkomnjkolggnaaSat
import Derived.Test.YtjkomnjkolggnaaTm
import Derived.BigRegion
namespace Go.Proofs.Ytjkomnjkolggnaa
open Go.ChangeShapes Go.WideShapes Go.ChangeAt Go.RowKit
set_option linter.unusedVariables false
set_option linter.unusedSimpArgs false
set_option maxRecDepth 100000

section
variable {P : Nat → Prop} {col col' : Col} {w w' : World} {k g : Nat} {t : ExSt}
theorem room_fits (e : En) (h1 : 0 ≤ e.2.1) (h2 : 0 ≤ e.2.2) : fitsB e.2.1 e.2.2 = roomX e := by
  unfold fitsB roomX topX
  exact decide_eq_decide.2 (by omega)
set_option maxHeartbeats 8000000 in
theorem xPut (H : PXs col k w g t) (ht : Tidy col w) (e : En) (hz : Sz e.1) (he1 : W64 e.2.1) (he2 : W64 e.2.2) :
    Calls Try.prog 12 #[.pointer (some ⟨g, 0, none⟩), .agg #[.string e.1, .int .u64 e.2.1, .int .u64 e.2.2]] w fun r w' => r = .returned (.int .i64 (t.put e).1) ∧ DidPX PXs col k w g (t.put e).2 w' := by
  have b1 : Below w.heap.size w (w.alloc (.cells #[.string e.1, .int .u64 e.2.1, .int .u64 e.2.2] 32)) := (Below.refl _ _).alloc (Nat.le_refl _) _
  have HD := Lib.hid (fun (W : World) (hb : Below w.heap.size w W) => show DidPX PXs col k w g t W from ⟨col, H.below ht hb, StepC.below ht hb⟩)
  have X1 : BoxC col (w.alloc (.cells #[.string e.1, .int .u64 e.2.1, .int .u64 e.2.2] 32)) w.heap.size 0 (VE e) 32 := ⟨heap_alloc_new _ _, ht _ (Nat.le_refl _)⟩
  have T1 := ht.size b1.size
  have hGd := H.1
  have hk : 1 ≤ k := by obtain ⟨_, _, _, h⟩ := H; exact h.k1
  have H1 := H.below ht b1
  obtain ⟨_, A, c, HB1⟩ := H1
  have hG6 : t.l.length ≤ 64 := by have := hGd.len; have := hGd.n1; omega
  have hn1 := hGd.n1
  obtain ⟨n, hn⟩ : ∃ n, t.l.length = n := ⟨_, rfl⟩
  obtain ⟨m, hm⟩ : ∃ m, t.n = m := ⟨_, rfl⟩
  have hP := xfind (HB1.box.cell 0 rfl) HB1.row.own.reads hGd.srt hG6 e.1
  have hF := fun W => fits_any e.2.1 e.2.2 W he1 he2
  rw [room_fits e he1.1 he2.1] at hF
  have hcl := fun W => clone_str e.1 W hz
  have hpl : placeM t.l e.1 ≤ n := by rw [← hn]; exact place_le _ _
  obtain ⟨W1, hW1⟩ : ∃ W1, W1 = (w.alloc (.cells #[.string e.1, .int .u64 e.2.1, .int .u64 e.2.2] 32)) := ⟨_, rfl⟩
  obtain ⟨G, hG⟩ : ∃ G, w.heap.size = G := ⟨_, rfl⟩
  rw [← hW1, hG] at X1
  rw [← hW1] at hP HB1 T1 b1
  have HX1 := Lib.hid (And.intro X1 (And.intro HB1 (And.intro T1 b1)))
  have hl2 : ∀ W2, Below W1.heap.size W1 W2 → W2.cell? ⟨g, 0, none⟩ = some (.slice A n c) ∧ W2.cell? ⟨g, 1, none⟩ = some (.int .i64 m) ∧ W2.cell? ⟨G, 0, none⟩ = some (.string e.1) ∧ W2.cell? ⟨G, 1, none⟩ = some (.int .u64 e.2.1) ∧ W2.cell? ⟨G, 2, none⟩ = some (.int .u64 e.2.2) := fun W2 hb => by
    have h1 := (HB1.below T1 hb).box
    rw [hn, hm] at h1
    have h2 := X1.keep (P := fun _ => False) (StepC.below T1 hb) (fun h => h)
    exact ⟨h1.cell 0 rfl, h1.cell 1 rfl, h2.cell 0 rfl, h2.cell 1 rfl, h2.cell 2 rfl⟩
  have HC := Lib.hid hl2
  obtain ⟨x0, _, y0, _, _⟩ := hl2 W1 (Below.refl _ _)
  obtain ⟨i, hi⟩ : ∃ i, placeM t.l e.1 = i := ⟨_, rfl⟩
  rw [hi] at hpl hP
  by_cases hs : e.1.size = 0
  · have hb : e.1.toList.isEmpty = true := (ba_empty hs).1
    rw [putX_form hs]
    clear X1 HB1 T1 hl2 hF hcl HX1 hz H hGd
    have y0r := y0
    rw [hW1] at y0
    rw [← hG] at y0
    obtain ⟨q, hq⟩ : ∃ q, atK t.l e.1 = q := ⟨_, rfl⟩
    rw [hq] at hP
    go_enter Try.func12, Try.ntmps12
    go_wp2_with fail
    rw [← hW1]
    clear hW1 y0
    refine hP.mono ?_
    rintro r w2 ⟨rfl, b2⟩
    obtain ⟨c0, c1, d0, d1, d2⟩ := HC.out w2 b2
    have HB := Lib.hid (below_then b1 b2)
    clear hP b1 b2 HC x0 y0r
    go_wp2
    go_ret
    exact ⟨rfl, HD.out _ HB.out⟩
  have hb : e.1.toList.isEmpty = false := ba_some (by omega)
  have y0r := y0
  rw [hW1] at y0
  rw [← hG] at y0
  cases ha : atK t.l e.1 with
  | true =>
    obtain ⟨e0, _, _, hp, _⟩ := atK_yes ha
    rw [ha] at hP
    rw [putX_dup hs hp]
    clear X1 HB1 T1 hl2 hF hcl HX1 hz H hGd hp
    go_enter Try.func12, Try.ntmps12
    go_wp2_with fail
    rw [← hW1]
    clear hW1 y0
    refine hP.mono ?_
    rintro r w2 ⟨rfl, b2⟩
    obtain ⟨c0, c1, d0, d1, d2⟩ := HC.out w2 b2
    have HB := Lib.hid (below_then b1 b2)
    clear hP b1 b2 HC x0 y0r
    go_wp2
    go_ret
    exact ⟨rfl, HD.out _ HB.out⟩
  | false =>
  have hp := atK_no hGd.srt ha
  rw [ha] at hP
  by_cases hfull : n = m
  · subst hfull
    rw [putX_full hs hp (by rw [hn, hm])]
    clear X1 HB1 T1 hl2 hF hcl HX1 hz H hGd hp
    go_enter Try.func12, Try.ntmps12
    go_wp2_with fail
    rw [← hW1]
    clear hW1 y0
    refine hP.mono ?_
    rintro r w2 ⟨rfl, b2⟩
    obtain ⟨c0, c1, d0, d1, d2⟩ := HC.out w2 b2
    have HB := Lib.hid (below_then b1 b2)
    clear hP b1 b2 HC x0 y0r
    go_wp2
    go_quiet (fail)
    go_wp2
    go_ret
    exact ⟨rfl, HD.out _ (below_drewN HB.out _)⟩
  have hnm : ((n : Int) == (m : Int)) = false := beq_eq_false_iff_ne.2 (by omega)
  cases hr : roomX e with
  | false =>
    rw [putX_over hs hp (by rw [hn, hm]; exact hfull) hr]
    rw [hr] at hF
    clear X1 HB1 T1 hl2 hcl HX1 hz H hGd hp
    go_enter Try.func12, Try.ntmps12
    go_wp2_with fail
    rw [← hW1]
    clear hW1 y0
    refine hP.mono ?_
    rintro r w2 ⟨rfl, b2⟩
    obtain ⟨c0, c1, d0, d1, d2⟩ := HC.out w2 b2
    have HB := Lib.hid (below_then b1 b2)
    clear hP b2 x0 y0r
    go_wp2
    go_quiet (fail)
    go_wp2_with fail
    refine (hF _).mono ?_
    rintro r w3 ⟨rfl, rfl⟩
    clear b1 HC
    go_wp2
    go_ret
    exact ⟨rfl, HD.out _ (below_drewN HB.out _)⟩
  | true =>
    rw [putX_ok hs hp (by rw [hn, hm]; exact hfull) hr]
    have hGp := hGd.put he1.1 he2.1
    rw [putX_ok hs hp (by rw [hn, hm]; exact hfull) hr] at hGp
    have hsrt := ins_sorted hGd.srt hGd.nd hp
    rw [hi] at hsrt
    rw [← hsrt] at hGp ⊢
    rw [hr] at hF
    have HG := Lib.hid hGp
    have HN := Lib.hid hn
    have HL := Lib.hid (show (t.l.take i ++ e :: t.l.drop i).length = n + 1 by simp; omega)
    have hin : i ≤ n := hpl
    clear X1 HB1 T1 hl2 hz H hGd hp hGp hsrt
    go_enter Try.func12, Try.ntmps12
    go_wp2_with fail
    rw [← hW1]
    clear hW1 y0
    refine hP.mono ?_
    rintro r w2 ⟨rfl, b2⟩
    obtain ⟨c0, c1, d0, d1, d2⟩ := HC.out w2 b2
    clear hP x0 y0r
    go_wp2
    go_quiet (fail)
    go_wp2_with fail
    refine (hF _).mono ?_
    rintro r w3 ⟨rfl, rfl⟩
    clear hF
    go_wp2_with fail
    refine (hcl _).mono ?_
    rintro r w4 ⟨rfl, b4⟩
    obtain ⟨X1, HB1, T1, b1'⟩ := HX1.out
    have B4 : Below W1.heap.size W1 w4 := below_then (below_drewN b2 _) b4
    obtain ⟨a0, a1, v0, v1, v2⟩ := HC.out w4 B4
    have S4 : StepC (Rng k) col w col w4 := StepC.below ht (below_then b1 B4)
    have H4 := HB1.below T1 B4
    have X4 := X1.keep (P := fun _ => False) (StepC.below T1 B4) (fun h => h)
    have s5 : StepC (fun d => d = 0) col w4 col (w4.setCell ⟨G, 0, none⟩ (.string e.1)) := StepC.set S4.tidy (a := ⟨G, 0, none⟩) X4.col _
    have H5 := H4.keep s5 (fun c hc e => by have := hc.1; omega)
    have X5 : BoxC col (w4.setCell ⟨G, 0, none⟩ (.string e.1)) G 0 (VE e) 32 := X4.put 0 (.string e.1)
    have S5 := S4.inNew (a := ⟨G, 0, none⟩) (by rw [hG]; exact Nat.le_refl _) (.string e.1)
    have f0 := X4.free 0
    have T5 := s5.tidy
    have HB := Lib.hid H5
    have HX := Lib.hid X5
    have HS := Lib.hid S5
    have hSP : ∀ W, Below (w4.setCell ⟨G, 0, none⟩ (.string e.1)).heap.size (w4.setCell ⟨G, 0, none⟩ (.string e.1)) W → W.cell? ⟨g, 0, none⟩ = some (.slice A n c) ∧ W.cell? ⟨G, 0, none⟩ = some (.string e.1) ∧ W.cell? ⟨G, 1, none⟩ = some (.int .u64 e.2.1) ∧ W.cell? ⟨G, 2, none⟩ = some (.int .u64 e.2.2) := fun W hb => by
      have h1 := (HB.out.below T5 hb).box
      rw [HN.out] at h1
      have h2 := HX.out.keep (P := fun _ => False) (StepC.below T5 hb) (fun h => h)
      exact ⟨h1.cell 0 rfl, h2.cell 0 rfl, h2.cell 1 rfl, h2.cell 2 rfl⟩
    clear X1 HB1 T1 b1' B4 S4 H4 X4 s5 H5 X5 S5 b2 b4 c0 c1 d0 d1 d2 hcl HC HX1 b1 a0 a1 hn
    go_upto_region 13 with fail
    generalize w4.setCell ⟨G, 0, none⟩ (.string e.1) = W5 at *
    clear v0 v1 v2 f0
    refine wp_region_noPanic ?_
    refine wp_region_late (fun W => W.cell? ⟨g, 0, none⟩ = some (.slice A n c) ∧ W.cell? ⟨G, 0, none⟩ = some (.string e.1) ∧ W.cell? ⟨G, 1, none⟩ = some (.int .u64 e.2.1) ∧ W.cell? ⟨G, 2, none⟩ = some (.int .u64 e.2.2)) (fun j => [0, 1, 2, 3, 5, 9, 10, 11].contains j) (by kernel_rfl) ?_
    intro u0 hu0
    have B0 : Below W5.heap.size W5 u0 := by rw [← hu0]; exact bdM _
    have hS := hSP _ B0
    clear hu0
    refine wpAnyL_takeY 0 _ (.pointer (some ⟨g, 0, none⟩)) rfl (by kernel_rfl) (by kernel_rfl) (by kernel_rfl) (by kernel_rfl) (fun _ _ _ h => h) (Or.inl ⟨by rfl, ?_⟩) ?_
    · intro w'; go_simp
    simp only [Act.put, List.setIfInBounds_toArray, List.set_cons_zero, List.set_cons_succ]
    refine wpAnyL_takeY 1 _ (.pointer (some ⟨g, 0, none⟩)) rfl (by kernel_rfl) (by kernel_rfl) (by kernel_rfl) (by kernel_rfl) (fun _ _ _ h => h) (Or.inl ⟨by rfl, ?_⟩) ?_
    · intro w'; go_simp
    simp only [Act.put, List.setIfInBounds_toArray, List.set_cons_zero, List.set_cons_succ]
    refine wpAnyL_takeY 2 _ (.pointer (some ⟨g, 0, none⟩)) rfl (by kernel_rfl) (by kernel_rfl) (by kernel_rfl) (by kernel_rfl) (fun _ _ _ h => h) (Or.inl ⟨by rfl, ?_⟩) ?_
    · intro w'; go_simp
    simp only [Act.put, List.setIfInBounds_toArray, List.set_cons_zero, List.set_cons_succ]
    refine wpAnyL_takeY 3 _ (.pointer (some ⟨g, 0, none⟩)) rfl (by kernel_rfl) (by kernel_rfl) (by kernel_rfl) (by kernel_rfl) (fun _ _ _ h => h) (Or.inl ⟨by rfl, ?_⟩) ?_
    · intro w'; go_simp
    simp only [Act.put, List.setIfInBounds_toArray, List.set_cons_zero, List.set_cons_succ]
    refine wpAnyL_takeY 5 _ (.int .i64 (i : Int)) rfl (by kernel_rfl) (by kernel_rfl) (by kernel_rfl) (by kernel_rfl) (fun _ _ _ h => h) (Or.inl ⟨by rfl, ?_⟩) ?_
    · intro w'; go_simp
    simp only [Act.put, List.setIfInBounds_toArray, List.set_cons_zero, List.set_cons_succ]
    refine wpAnyL_take 4 _ (.slice A n c) rfl (by kernel_rfl) (by kernel_rfl) (by kernel_rfl) (by kernel_rfl) (fun _ _ _ h => h) (Or.inl ⟨by rfl, ?_⟩) hS ?_
    · rintro w' ⟨hS0, hS1, hS2, hS3⟩; go_simp
    simp only [Act.put, List.setIfInBounds_toArray, List.set_cons_zero, List.set_cons_succ]
    refine wpAnyL_take 6 _ (.agg #[.string e.1, .int .u64 e.2.1, .int .u64 e.2.2]) rfl (by kernel_rfl) (by kernel_rfl) (by kernel_rfl) (by kernel_rfl) (fun _ _ _ h => h) (Or.inl ⟨by rfl, ?_⟩) hS ?_
    · rintro w' ⟨hS0, hS1, hS2, hS3⟩; go_simp
    simp only [Act.put, List.setIfInBounds_toArray, List.set_cons_zero, List.set_cons_succ]
    clear hS
    refine wpAnyL_all [7] (by kernel_rfl) (by simp) ?_
    refine lateCons ?_ lateNil
    refine wpOpL_step _ rfl (fun K' hK => ?_)
    go_simp
    have b6 : Below u0.heap.size u0 (u0.alloc (.cells #[.string e.1, .int .u64 e.2.1, .int .u64 e.2.2] 32)) := (Below.refl _ _).alloc (Nat.le_refl _) _
    have B6 := below_then B0 b6
    have x6 : (u0.alloc (.cells #[.string e.1, .int .u64 e.2.1, .int .u64 e.2.2] 32)).heap[u0.heap.size]? = some (.cells (VE e) 32 (0, 0)) := heap_alloc_new _ _
    have hG0 : W5.heap.size ≤ u0.heap.size := B0.size
    refine hK.out _ _ (fun _ => hSP _ B6) ?_
    clear hK K'
    generalize u0.alloc (.cells #[.string e.1, .int .u64 e.2.1, .int .u64 e.2.2] 32) = u1 at *
    generalize u0.heap.size = h1 at *
    clear b6 B0
    try simp only [Act.put, List.setIfInBounds_toArray, List.set_cons_zero, List.set_cons_succ]
    refine wpAnyL_all [8] (by kernel_rfl) (by simp) ?_
    refine lateCons ?_ lateNil
    refine wpOpL_step _ rfl (fun K' hK => ?_)
    go_simp
    have H6 := HB.out.below T5 B6
    have T6 := T5.size B6.size
    have hI := ins_anyE H6.row.own (by omega) (i := i) (by rw [HN.out]; exact hin) x6 (fun q hq => by have h5 := HB.out.row.own.lt q hq; omega)
    rw [HN.out] at hI
    refine hI.mono ?_
    rintro e' u2 ⟨v2, rfl, O2, G2, at2⟩
    obtain ⟨A2, c2, rfl, -, -⟩ := O2.form (n := n + 1) HL.out
    have G2' : u1.grownBy u2 (Value.slice A t.l.length c).ownBlock := by rw [HN.out]; exact G2
    have at2' : (Value.slice A2 (n + 1) c2).ownBlock = (Value.slice A t.l.length c).ownBlock ∨ (Value.slice A2 (n + 1) c2).ownBlock = some u1.heap.size := by rw [HN.out]; exact at2
    have hcl := fun q (hq : (Value.slice A t.l.length c).ownBlock = some q) => H6.row.col q hq
    have s7 : StepC (fun d => d = k + 1) col u1 col u2 := StepC.grownBy T6 G2' hcl
    have B7 := H6.box.keep s7 (by omega)
    have X7 := (HX.out.keep (P := fun _ => False) (StepC.below T5 B6) (fun h => h)).keep s7 (by omega)
    have q7 : u2.cell? ⟨g, 0, none⟩ = some (.slice A n c) := by rw [← HN.out]; exact B7.cell 0 rfl
    refine hK.out _ _ (fun _ => ⟨q7, X7.cell 0 rfl, X7.cell 1 rfl, X7.cell 2 rfl⟩) ?_
    clear hK K'
    try simp only [Act.put, List.setIfInBounds_toArray, List.set_cons_zero, List.set_cons_succ]
    have f7 := B7.free 0
    obtain ⟨c7, H7, S7⟩ := H6.grow T6 HL.out O2 G2' at2'
    have HD := Lib.hid (show DidPX PXs col k w g _ _ from ⟨_, ⟨HG.out, _, _, H7⟩, (HS.out.trans (StepC.below T5 B6)).trans S7⟩)
    clear H7 S7 B7 X7 s7 hcl O2 G2 at2 G2' at2' H6 T6 hI x6 B6 hG0
    refine wpAnyL_takeY 9 _ (.pointer (some ⟨g, 0, none⟩)) rfl (by kernel_rfl) (by kernel_rfl) (by kernel_rfl) (by kernel_rfl) (fun _ _ _ h => h) (Or.inl ⟨by rfl, ?_⟩) ?_
    · intro w'; go_simp
    simp only [Act.put, List.setIfInBounds_toArray, List.set_cons_zero, List.set_cons_succ]
    refine wpAnyL_takeY 10 _ (.pointer (some ⟨g, 0, none⟩)) rfl (by kernel_rfl) (by kernel_rfl) (by kernel_rfl) (by kernel_rfl) (fun _ _ _ h => h) (Or.inl ⟨by rfl, ?_⟩) ?_
    · intro w'; go_simp
    simp only [Act.put, List.setIfInBounds_toArray, List.set_cons_zero, List.set_cons_succ]
    refine wpAnyL_all [11] (by kernel_rfl) (by simp) ?_
    refine lateCons ?_ lateNil
    refine wpOpL_step _ rfl (fun K' hK => ?_)
    go_simp
    refine hK.out _ _ (fun h => absurd h (by decide)) ?_
    clear hK K'
    try simp only [Act.put, List.setIfInBounds_toArray, List.set_cons_zero, List.set_cons_succ]
    refine wpAnyL_done (by kernel_rfl) ?_ _
    dsimp only [NoPanic]
    go_wp2
    go_ret
    exact ⟨rfl, HD.out⟩
end
end Go.Proofs.Ytjkomnjkolggnaa
