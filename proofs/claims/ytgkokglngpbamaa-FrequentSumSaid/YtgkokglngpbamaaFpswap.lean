/- The program's tables (Misra-Gries): Take, allows, Swap. Conditions: none beyond those typed. -/
import Derived.Test.YtgkokglngpbamaaZ17
namespace Go.Proofs.Ytgkokglngpbamaa
open Go.ChangeShapes Go.WideShapes Go.ChangeAt Go.RowKit
set_option linter.unusedVariables false
set_option linter.unusedSimpArgs false
set_option maxRecDepth 100000

/-- What Swap refuses of an entry in the place of one with this Own. -/
def alF (t : TSt) (e : En) (own : Int) : Int := if e.1.size = 0 then 3 else if (placeE t.l e.1).isSome = true then 10 else if e.2.1 = 0 ∨ own < e.2.1 ∨ t.base < e.2.2 then 1 else 0
section
variable {P : Nat → Prop} {c2 c3 : Col} {w w' : World} {g gm i : Nat} {t : TSt} {s : ByteArray} {z own : Int} {m : MSt Int} {e old : En}
set_option maxHeartbeats 4000000 in
theorem fTake_any (T : SoFT c2 w g t) (ht : Tidy c2 w) (hs : s.size ≤ 281474976710656) :
    Calls Try.prog 11 #[.pointer (some ⟨g, 0, none⟩), .string s] w fun e w' => e = .returned (.tuple #[.agg (VE (t.getF s).1), .bool (t.getF s).2]) ∧ DidFT c2 w g (t.take s) w' := by
  obtain ⟨gm, m, H, L⟩ := T
  have s1 := StepC.new ht (.cells #[.string ⟨#[]⟩, .int .u64 0, .int .u64 0] 32) 2 (fun _ => False)
  have X1 : BoxC (dye c2 (some w.heap.size) 2) (w.alloc (.cells #[.string ⟨#[]⟩, .int .u64 0, .int .u64 0] 32)) w.heap.size 2 (VE zeroE) 32 := ⟨heap_alloc_new w _, dye_of⟩
  have H1 := H.keep s1 (fun _ _ h => h) (fun h => h)
  have hC := fGet_any H1 L s1.tidy hs
  have S1 := s1.mono (P' := fun c => 2 ≤ c) (fun c hc => hc.elim)
  have L2 := L.take s
  have t1 := s1.tidy
  obtain ⟨cA, hcA⟩ : ∃ cA, cA = dye c2 (some w.heap.size) 2 := ⟨_, rfl⟩
  obtain ⟨W1, hW1⟩ : ∃ W1, W1 = w.alloc (.cells #[.string ⟨#[]⟩, .int .u64 0, .int .u64 0] 32) := ⟨_, rfl⟩
  obtain ⟨G, hGG⟩ : ∃ G, w.heap.size = G := ⟨_, rfl⟩
  rw [← hW1] at hC
  rw [← hcA, ← hW1] at X1 S1 H1 t1
  rw [hGG] at X1
  have hGW : w.heap.size ≤ G := by omega
  cases hp : placeE t.l s with
  | none =>
    have hR : t.getF s = (zeroE, false) := by unfold TSt.getF; rw [hp]
    have hT : t.take s = t := by unfold TSt.take; rw [hp]
    rw [hR] at hC ⊢
    rw [hT]
    have hC' : Calls Try.prog 10 #[.pointer (some ⟨g, 0, none⟩), .string s] W1 fun e w' => e = .returned (.tuple #[.agg #[.string ⟨#[]⟩, .int .u64 0, .int .u64 0], .bool false]) ∧ Below W1.heap.size W1 w' := hC
    have HX := Lib.hid (And.intro H1 (And.intro L (And.intro t1 S1)))
    clear H L H1 L2 hR hT hp s1 hcA t1 S1 hC
    go_enter Try.func11, Try.ntmps11
    go_wp2_with fail
    rw [← hW1]
    clear hW1
    refine hC'.mono ?_
    rintro e w2 ⟨rfl, b2⟩
    have b3 : Below W1.heap.size W1 (w2.alloc (.cells #[.string ⟨#[]⟩, .int .u64 0, .int .u64 0] 32)) := b2.alloc b2.size _
    have S3 : StepC (fun _ => False) cA W1 cA (w2.alloc (.cells #[.string ⟨#[]⟩, .int .u64 0, .int .u64 0] 32)) := StepC.below HX.out.2.2.1 b3
    have X3 := X1.keep S3 (fun h => h)
    have S4 := HX.out.2.2.2.trans (S3.mono (P' := fun c => 2 ≤ c) (fun c hc => hc.elim))
    obtain ⟨u1, u2, hX, z0, z1, z2, f0, f1, f2⟩ := vboxed S4 X3 hGW zeroE
    have z0' : (w2.alloc (.cells #[.string ⟨#[]⟩, .int .u64 0, .int .u64 0] 32)).cell? ⟨G, 0, none⟩ = some (.string ⟨#[]⟩) := z0
    have z1' : (w2.alloc (.cells #[.string ⟨#[]⟩, .int .u64 0, .int .u64 0] 32)).cell? ⟨G, 1, none⟩ = some (.int .u64 0) := z1
    have z2' : (w2.alloc (.cells #[.string ⟨#[]⟩, .int .u64 0, .int .u64 0] 32)).cell? ⟨G, 2, none⟩ = some (.int .u64 0) := z2
    have HY := Lib.hid hX
    have HD := Lib.hid (show DidFT c2 w g t _ from ⟨cA, ⟨gm, m, (HX.out.1.keep S3 (fun _ _ h => h) (fun h => h)).keep u1 (fun c hc => by omega) (by omega), HX.out.2.1⟩, u2⟩)
    clear X1 X3 hC' b2 b3 S3 S4 u1 u2 hX z0 z1 z2 HX hGW hGG
    go_wp2
    refine bodyPost_ret (results_cell_row2 rfl _ _ G _ _ (0, 0) _ rfl HY.out Try.underlying32 rfl (by kernel_rfl)) rfl ?_
    exact ⟨rfl, HD.out⟩
  | some i =>
    obtain ⟨e0, hi, he0, _⟩ := placeE_some hp
    have hR : t.getF s = ((s, e0.2.1, t.base), true) := by
      unfold TSt.getF; rw [hp]; simp only [hi, Option.getD_some]; unfold TSt.tellF; rw [he0]
    rw [hR] at hC ⊢
    have hb : (t.take s).base = t.base ∧ (t.take s).sum = t.sum := by unfold TSt.take; rw [hp]; exact ⟨rfl, rfl⟩
    obtain ⟨o, ho⟩ : ∃ o, e0.2.1 = o := ⟨_, rfl⟩
    obtain ⟨b, hbb⟩ : ∃ b, t.base = b := ⟨_, rfl⟩
    rw [ho, hbb] at hC ⊢
    have hC' : Calls Try.prog 10 #[.pointer (some ⟨g, 0, none⟩), .string s] W1 fun e w' => e = .returned (.tuple #[.agg #[.string s, .int .u64 o, .int .u64 b], .bool true]) ∧ Below W1.heap.size W1 w' := hC
    have HX := Lib.hid (And.intro H1 (And.intro L2 (And.intro t1 (And.intro S1 (And.intro hb.1 hb.2)))))
    clear H L H1 L2 hR hp s1 hcA t1 S1 hC hi he0 hb ho hbb
    go_enter Try.func11, Try.ntmps11
    go_wp2_with fail
    rw [← hW1]
    clear hW1
    refine hC'.mono ?_
    rintro e w2 ⟨rfl, b2⟩
    have b3 : Below W1.heap.size W1 (w2.alloc (.cells #[.string s, .int .u64 o, .int .u64 b] 32)) := b2.alloc b2.size _
    have S3 : StepC (fun _ => False) cA W1 cA (w2.alloc (.cells #[.string s, .int .u64 o, .int .u64 b] 32)) := StepC.below HX.out.2.2.1 b3
    have X3 := X1.keep S3 (fun h => h)
    have H3 := HX.out.1.keep S3 (fun _ _ h => h) (fun h => h)
    have S4 := HX.out.2.2.2.1.trans (S3.mono (P' := fun c => 2 ≤ c) (fun c hc => hc.elim))
    have Z3 : BoxC cA (w2.alloc (.cells #[.string s, .int .u64 o, .int .u64 b] 32)) w2.heap.size 0 (VE (s, o, b)) 32 := ⟨heap_alloc_new _ _, HX.out.2.2.1 _ b2.size⟩
    have hDl := delw_any H3.idx S3.tidy s hs
    have y0 := H3.c0
    have HS := Lib.hid (And.intro X3 (And.intro H3 (And.intro S4 Z3)))
    clear hC' b2 b3 S3 X1 X3 H3 S4 Z3
    go_wp2_with fail
    refine hDl.mono ?_
    rintro e w4 ⟨rfl, hd⟩
    obtain ⟨X3, H3, S4, Z3⟩ := HS.out
    obtain ⟨c5, H5, s5⟩ := H3.did hd
    have X5 := X3.keep s5 (by omega)
    have Z5 := Z3.keep s5 (by omega)
    have S5 := S4.trans (s5.mono (P' := fun c => 2 ≤ c) (fun c hc => by omega))
    obtain ⟨u1, u2, hX, z0, z1, z2, f0, f1, f2⟩ := vboxed S5 X5 hGW (s, o, b)
    have z0' : w4.cell? ⟨G, 0, none⟩ = some (.string ⟨#[]⟩) := z0
    have z1' : w4.cell? ⟨G, 1, none⟩ = some (.int .u64 0) := z1
    have z2' : w4.cell? ⟨G, 2, none⟩ = some (.int .u64 0) := z2
    have v0 : w4.cell? ⟨w2.heap.size, 0, none⟩ = some (.string s) := Z5.cell 0 rfl
    have v1 : w4.cell? ⟨w2.heap.size, 1, none⟩ = some (.int .u64 o) := Z5.cell 1 rfl
    have v2 : w4.cell? ⟨w2.heap.size, 2, none⟩ = some (.int .u64 b) := Z5.cell 2 rfl
    have HY := Lib.hid hX
    have HD := Lib.hid (show DidFT c2 w g (t.take s) _ from by
      obtain ⟨_, L2, _, _, hb1, hb2⟩ := HX.out
      exact ⟨c5, ⟨gm, _, by rw [hb2, hb1]; exact H5.keep u1 (fun c hc => by omega) (by omega), L2⟩, u2⟩)
    clear hDl hd HS X3 H3 S4 Z3 H5 s5 X5 Z5 S5 u1 u2 hX z0 z1 z2 HX hGW hGG y0
    go_wp2
    refine bodyPost_ret (results_cell_row2 rfl _ _ G _ _ (0, 0) _ rfl HY.out Try.underlying32 rfl (by kernel_rfl)) rfl ?_
    exact ⟨rfl, HD.out⟩
set_option maxHeartbeats 4000000 in
theorem fAllows_any {b : Int} (H : SoF c2 w g gm t.base b m) (L : LkF t m) (ht : Tidy c2 w) (hs : e.1.size ≤ 281474976710656) (h1 : 0 ≤ e.2.1 ∧ e.2.1 ≤ 18446744073709551615) (h2 : 0 ≤ e.2.2 ∧ e.2.2 ≤ 18446744073709551615) (h3 : 0 ≤ own ∧ own ≤ 9223372036854775808) :
    Calls Try.prog 37 #[.pointer (some ⟨g, 0, none⟩), .agg (VE e), .int .u64 own] w fun r w' => r = .returned (.int .i64 (alF t e own)) ∧ Below w.heap.size w w' := by
  obtain ⟨k, o, sl⟩ := e
  have hs' : k.size ≤ 281474976710656 := hs
  have h1' : 0 ≤ o ∧ o ≤ 18446744073709551615 := h1
  have h2' : 0 ≤ sl ∧ sl ≤ 18446744073709551615 := h2
  clear hs h1 h2
  have b1 : Below w.heap.size w (w.alloc (.cells #[.string k, .int .u64 o, .int .u64 sl] 32)) := (Below.refl _ _).alloc (Nat.le_refl _) _
  have X4 : BoxC c2 (w.alloc (.cells #[.string k, .int .u64 o, .int .u64 sl] 32)) w.heap.size 0 (VE (k, o, sl)) 32 := ⟨heap_alloc_new _ _, ht _ (Nat.le_refl _)⟩
  have t1 := ht.size b1.size
  have H1 := H.below ht b1
  have y40 : (w.alloc (.cells #[.string k, .int .u64 o, .int .u64 sl] 32)).cell? ⟨w.heap.size, 0, none⟩ = some (.string k) := X4.cell 0 rfl
  by_cases hk0 : k.size = 0
  · have hb : k.toList.isEmpty = true := (ba_empty hk0).1
    have HE := Lib.hid (show alF t (k, o, sl) own = 3 from if_pos hk0)
    have HB := Lib.hid b1
    rw [HE.out]
    clear X4 t1 H1 H L b1 HE hk0
    go_enter Try.func37, Try.ntmps37
    go_wp2
    go_ret
    exact ⟨rfl, HB.out⟩
  have hb : k.toList.isEmpty = false := ba_some (by omega)
  obtain ⟨W1, hW1⟩ : ∃ W, W = w.alloc (.cells #[.string k, .int .u64 o, .int .u64 sl] 32) := ⟨_, rfl⟩
  obtain ⟨G4, hG4⟩ : ∃ G, w.heap.size = G := ⟨_, rfl⟩
  have y40r := y40
  rw [← hW1] at X4 t1 H1 b1 y40
  rw [hG4] at X4 y40
  have bd := (Below.refl W1.heap.size W1).drew
  have hC := getw_any (H1.below t1 bd).idx (t1.size bd.size) k hs'
  have x0 := H1.c0
  rw [L.get k] at hC
  obtain ⟨⟨r, bR⟩, hR⟩ : ∃ q, ((t.getF k).1.2.1, (t.getF k).2) = q := ⟨_, rfl⟩
  have hbR : (placeE t.l k).isSome = bR := by
    have h := congrArg Prod.snd hR
    simp only at h
    rw [← h]
    unfold TSt.getF
    cases placeE t.l k <;> rfl
  rw [hR] at hC
  have hC' : Calls Try.prog 33 #[.pointer (some ⟨gm, 0, none⟩), .string k] W1.drew fun e w' => e = .returned (.tuple #[.int .u64 r, .bool bR]) ∧ Below W1.drew.heap.size W1.drew w' := hC
  have hAl : alF t (k, o, sl) own = if bR = true then 10 else if o = 0 ∨ own < o ∨ t.base < sl then 1 else 0 := by
    unfold alF
    rw [if_neg (show ¬ (k, o, sl).1.size = 0 from hk0)]
    show (if (placeE t.l k).isSome = true then _ else _) = _
    rw [hbR]
  obtain ⟨an, han⟩ : ∃ an, (if bR = true then (10 : Int) else if o = 0 ∨ own < o ∨ t.base < sl then 1 else 0) = an := ⟨_, rfl⟩
  rw [hAl, han]
  have HN := Lib.hid han
  have y40d : W1.drew.cell? ⟨G4, 0, none⟩ = some (.string k) := y40
  have x0d : W1.drew.cell? ⟨g, 0, none⟩ = some (.pointer (some ⟨gm, 0, none⟩)) := x0
  have HX := Lib.hid (And.intro X4 (And.intro H1 (And.intro t1 (And.intro b1 bd))))
  clear X4 H1 H L t1 b1 bd hR hAl han hbR hC
  go_enter Try.func37, Try.ntmps37
  go_wp2_with fail
  go_upto_region 3 with fail
  rw [← hW1]
  clear hW1 y40r hG4
  go_region_held3 (fun W => W.cell? ⟨G4, 0, none⟩ = some (.string k) ∧ W.cell? ⟨g, 0, none⟩ = some (.pointer (some ⟨gm, 0, none⟩))) (first | exact ⟨y40d, x0d⟩ | exact ⟨q4, q0⟩) ((go_at_call 33; refine hC'.mono ?_; rintro e' w5 ⟨rfl, b5⟩; have q4 := (b5.cell (p := ⟨G4, 0, none⟩) (World.block_lt_of_cell? _ _ y40d)).trans y40d; have q0 := (b5.cell (p := ⟨g, 0, none⟩) (World.block_lt_of_cell? _ _ x0d)).trans x0d))
  obtain ⟨X4, H1, t1, b1, bd⟩ := HX.out
  have bF := below_then bd b5
  have X5 := X4.keep (P := fun _ => False) (StepC.below t1 bF) (fun h => h)
  have u1 : w5.cell? ⟨G4, 1, none⟩ = some (.int .u64 o) := X5.cell 1 rfl
  have u2 : w5.cell? ⟨G4, 2, none⟩ = some (.int .u64 sl) := X5.cell 2 rfl
  have ub := (H1.below t1 bF).cb
  have HB := Lib.hid (below_then b1 bF)
  obtain ⟨B, hB⟩ : ∃ B, t.base = B := ⟨_, rfl⟩
  rw [hB] at ub HN
  clear X4 H1 t1 b1 bd bF X5 HX hC' hB y40 x0 y40d x0d b5
  cases bR with
  | true =>
    go_wp2
    go_ret
    have hz : (10 : Int) = an := by simpa using HN.out
    rw [← hz]
    exact ⟨rfl, HB.out⟩
  | false =>
    by_cases a1 : o = 0
    · have hb1 : (o == 0) = true := beq_iff_eq.2 a1
      have hz := Lib.hid (show (1 : Int) = an by rw [← HN.out, if_neg (show ¬ false = true from Bool.noConfusion), if_pos (.inl a1)])
      clear HN a1
      go_wp2
      go_quiet (fail)
      go_wp2
      go_ret
      rw [← hz.out]
      exact ⟨rfl, below_drewN HB.out _⟩
    by_cases a2 : own < o
    · have hb1 : (o == 0) = false := beq_false_of_ne a1
      have hb2 : decide (own < o) = true := decide_eq_true a2
      have hz := Lib.hid (show (1 : Int) = an by rw [← HN.out, if_neg (show ¬ false = true from Bool.noConfusion), if_pos (.inr (.inl a2))])
      clear HN a1
      go_wp2
      go_quiet (fail)
      go_wp2
      go_ret
      rw [← hz.out]
      exact ⟨rfl, below_drewN HB.out _⟩
    by_cases a3 : B < sl
    · have hb1 : (o == 0) = false := beq_false_of_ne a1
      have hb2 : decide (own < o) = false := decide_eq_false a2
      have hb3 : decide (B < sl) = true := decide_eq_true a3
      have hz := Lib.hid (show (1 : Int) = an by rw [← HN.out, if_neg (show ¬ false = true from Bool.noConfusion), if_pos (.inr (.inr a3))])
      clear HN a1
      go_wp2
      go_quiet (fail)
      go_wp2
      go_ret
      rw [← hz.out]
      exact ⟨rfl, below_drewN HB.out _⟩
    · have hb1 : (o == 0) = false := beq_false_of_ne a1
      have hb2 : decide (own < o) = false := decide_eq_false a2
      have hb3 : decide (B < sl) = false := decide_eq_false a3
      have hz := Lib.hid (show (0 : Int) = an by rw [← HN.out, if_neg (show ¬ false = true from Bool.noConfusion), if_neg (by omega)])
      clear HN a1
      go_wp2
      go_quiet (fail)
      go_wp2
      go_ret
      rw [← hz.out]
      exact ⟨rfl, below_drewN HB.out _⟩
/-- What Swap does, by what allows says. -/
theorem swapF_al {x : En} (hp : placeE t.l s = some i) (hi : t.l[i]? = some x) : t.swapF s e = if alF t e x.2.1 = 0 then (((t.getF s).1, 0), { t with l := withoutE t.l i ++ [(e.1, e.2.1, 0)] }) else ((zeroE, alF t e x.2.1), t) := by
  have hox : ownAt t.l i = x.2.1 := by unfold ownAt; rw [hi]; rfl
  unfold TSt.swapF alF
  rw [hp]
  show (if e.1.size = 0 then _ else _ : (En × Int) × TSt) = _
  by_cases c1 : e.1.size = 0
  · rw [if_pos c1, if_pos c1, if_neg (by decide)]
  rw [if_neg c1, if_neg c1]
  by_cases c2 : (placeE t.l e.1).isSome = true
  · rw [if_pos c2, if_pos c2, if_neg (by decide)]
  rw [if_neg c2, if_neg c2, hox]
  by_cases c3 : e.2.1 = 0 ∨ x.2.1 < e.2.1 ∨ t.base < e.2.2
  · rw [if_pos c3, if_pos c3, if_neg (by decide)]
  · rw [if_neg c3, if_neg c3, if_pos rfl]
theorem alF_zero {x : Int} (h : alF t e x = 0) : e.1.size ≠ 0 ∧ placeE t.l e.1 = none ∧ ¬ (e.2.1 = 0 ∨ x < e.2.1 ∨ t.base < e.2.2) := by
  unfold alF at h
  by_cases c1 : e.1.size = 0
  · rw [if_pos c1] at h; cases h
  rw [if_neg c1] at h
  by_cases c2 : (placeE t.l e.1).isSome = true
  · rw [if_pos c2] at h; cases h
  rw [if_neg c2] at h
  by_cases c3 : e.2.1 = 0 ∨ x < e.2.1 ∨ t.base < e.2.2
  · rw [if_pos c3] at h; cases h
  · refine ⟨c1, ?_, c3⟩
    cases hq : placeE t.l e.1 with
    | none => rfl
    | some j => rw [hq] at c2; exact absurd rfl c2
theorem swap_cells {G5 : Nat} {b sm : Int} {k : ByteArray} {o sl : Int} {m m' : MSt Int} (H : SoF c2 w g gm b sm m) (X : BoxC c2 w G5 0 (VE (k, o, sl)) 32) (hd : DidPM PMw c2 48 w gm m' w') : w'.cell? ⟨g, 0, none⟩ = some (.pointer (some ⟨gm, 0, none⟩)) ∧ w'.cell? ⟨G5, 0, none⟩ = some (.string k) ∧ w'.cell? ⟨G5, 1, none⟩ = some (.int .u64 o) := by
  obtain ⟨c3, H3, s3⟩ := H.did hd
  have X3 := X.keep s3 (by omega)
  exact ⟨H3.c0, X3.cell 0 rfl, X3.cell 1 rfl⟩
set_option maxHeartbeats 4000000 in
theorem fSwap_no (T : SoFT c2 w g t) (ht : Tidy c2 w) (hs : s.size ≤ 281474976710656) (e : En) (hp : placeE t.l s = none) :
    Calls Try.prog 12 #[.pointer (some ⟨g, 0, none⟩), .string s, .agg (VE e)] w fun r w' => r = .returned (.tuple #[.agg (VE zeroE), .int .i64 8]) ∧ DidFT c2 w g t w' := by
  obtain ⟨k, o, sl⟩ := e
  have HT := Lib.hid T
  obtain ⟨gm, m, H, L⟩ := T
  have b0 : Below w.heap.size w (w.alloc (.cells #[.string k, .int .u64 o, .int .u64 sl] 32)) := (Below.refl _ _).alloc (Nat.le_refl _) _
  have b1 : Below w.heap.size w ((w.alloc (.cells #[.string k, .int .u64 o, .int .u64 sl] 32)).alloc (.cells #[.string ⟨#[]⟩, .int .u64 0, .int .u64 0] 32)) := b0.alloc b0.size _
  have hsz : (w.alloc (.cells #[.string k, .int .u64 o, .int .u64 sl] 32)).heap.size = w.heap.size + 1 := by simp
  have X1 : BoxC c2 ((w.alloc (.cells #[.string k, .int .u64 o, .int .u64 sl] 32)).alloc (.cells #[.string ⟨#[]⟩, .int .u64 0, .int .u64 0] 32)) (w.heap.size + 1) 0 (VE zeroE) 32 := by
    rw [← hsz]
    exact ⟨heap_alloc_new _ _, ht _ (by rw [hsz]; omega)⟩
  have t1 := ht.size b1.size
  have hGt := fGet_any (H.below ht b1) L t1 hs
  rw [show t.getF s = (zeroE, false) by unfold TSt.getF; rw [hp]] at hGt
  obtain ⟨W1, hW1⟩ : ∃ W, W = ((w.alloc (.cells #[.string k, .int .u64 o, .int .u64 sl] 32)).alloc (.cells #[.string ⟨#[]⟩, .int .u64 0, .int .u64 0] 32)) := ⟨_, rfl⟩
  obtain ⟨G, hG⟩ : ∃ G, w.heap.size + 1 = G := ⟨_, rfl⟩
  rw [← hW1] at X1 t1 hGt b1
  rw [hG] at X1
  have hGW : w.heap.size ≤ G := by omega
  have hGt' : Calls Try.prog 10 #[.pointer (some ⟨g, 0, none⟩), .string s] W1 fun e w' => e = .returned (.tuple #[.agg #[.string ⟨#[]⟩, .int .u64 0, .int .u64 0], .bool false]) ∧ Below W1.heap.size W1 w' := hGt
  clear b0 hp hsz H L hGt
  go_enter Try.func12, Try.ntmps12
  go_wp2_with fail
  rw [← hW1]
  clear hW1
  refine hGt'.mono ?_
  rintro e w2 ⟨rfl, b2⟩
  have b3 : Below W1.heap.size W1 (w2.alloc (.cells #[.string ⟨#[]⟩, .int .u64 0, .int .u64 0] 32)) := b2.alloc b2.size _
  have X3 : BoxC c2 (w2.alloc (.cells #[.string ⟨#[]⟩, .int .u64 0, .int .u64 0] 32)) G 0 (VE zeroE) 32 := X1.keep (P := fun _ => False) (StepC.below t1 b3) (fun h => h)
  obtain ⟨hX, hB, z0, z1, z2, f0, f1, f2⟩ := boxE X3 (w0 := w) hGW (below_then b1 b3) zeroE
  have z0' : (w2.alloc (.cells #[.string ⟨#[]⟩, .int .u64 0, .int .u64 0] 32)).cell? ⟨G, 0, none⟩ = some (.string ⟨#[]⟩) := z0
  have z1' : (w2.alloc (.cells #[.string ⟨#[]⟩, .int .u64 0, .int .u64 0] 32)).cell? ⟨G, 1, none⟩ = some (.int .u64 0) := z1
  have z2' : (w2.alloc (.cells #[.string ⟨#[]⟩, .int .u64 0, .int .u64 0] 32)).cell? ⟨G, 2, none⟩ = some (.int .u64 0) := z2
  have HX := Lib.hid hX
  have HD := Lib.hid (show DidFT c2 w g t _ from ⟨c2, HT.out.below ht hB, StepC.below ht hB⟩)
  clear X1 X3 hGt' b1 b2 b3 hGW hG t1 z0 z1 z2 hX hB HT
  go_wp2
  refine bodyPost_ret (results_cell_row2 rfl _ _ G _ _ (0, 0) _ rfl HX.out Try.underlying32 rfl (by kernel_rfl)) rfl ?_
  exact ⟨rfl, HD.out⟩
set_option maxHeartbeats 4000000 in
theorem fSwap_ref {x : En} (T : SoFT c2 w g t) (ht : Tidy c2 w) (hs : s.size ≤ 281474976710656) (hk : e.1.size ≤ 281474976710656) (h1 : 0 ≤ e.2.1 ∧ e.2.1 ≤ 18446744073709551615) (h2 : 0 ≤ e.2.2 ∧ e.2.2 ≤ 18446744073709551615) (hp : placeE t.l s = some i) (hi : t.l[i]? = some x) (hne : alF t e x.2.1 ≠ 0) :
    Calls Try.prog 12 #[.pointer (some ⟨g, 0, none⟩), .string s, .agg (VE e)] w fun r w' => r = .returned (.tuple #[.agg (VE zeroE), .int .i64 (alF t e x.2.1)]) ∧ DidFT c2 w g t w' := by
  have HT := Lib.hid T
  obtain ⟨gm, m, H, L⟩ := T
  have hbd := L.gT.bd (List.mem_of_getElem? hi)
  have htop := L.gT.top
  have hAl := fun (W : World) (hb : Below w.heap.size w W) => fAllows_any (own := x.2.1) (H.below ht hb) L (ht.size hb.size) hk h1 h2 (by omega)
  obtain ⟨an, han⟩ : ∃ an, alF t e x.2.1 = an := ⟨_, rfl⟩
  rw [han] at hne ⊢
  simp only [han] at hAl
  obtain ⟨k, o, sl⟩ := e
  have hR : t.getF s = ((s, x.2.1, t.base), true) := by
    obtain ⟨x', hi', hx, _⟩ := placeE_some hp
    rw [hi] at hi'; injection hi' with hi'; subst hi'
    unfold TSt.getF; rw [hp]; simp only [hi, Option.getD_some]; unfold TSt.tellF; rw [hx]
  obtain ⟨ow, how⟩ : ∃ ow, x.2.1 = ow := ⟨_, rfl⟩
  obtain ⟨b, hbb⟩ : ∃ b, t.base = b := ⟨_, rfl⟩
  rw [how, hbb] at hR
  rw [how] at hAl
  have b0 : Below w.heap.size w (w.alloc (.cells #[.string k, .int .u64 o, .int .u64 sl] 32)) := (Below.refl _ _).alloc (Nat.le_refl _) _
  have b1 : Below w.heap.size w ((w.alloc (.cells #[.string k, .int .u64 o, .int .u64 sl] 32)).alloc (.cells #[.string ⟨#[]⟩, .int .u64 0, .int .u64 0] 32)) := b0.alloc b0.size _
  have hsz : (w.alloc (.cells #[.string k, .int .u64 o, .int .u64 sl] 32)).heap.size = w.heap.size + 1 := by simp
  have X5 : BoxC c2 ((w.alloc (.cells #[.string k, .int .u64 o, .int .u64 sl] 32)).alloc (.cells #[.string ⟨#[]⟩, .int .u64 0, .int .u64 0] 32)) w.heap.size 0 (VE (k, o, sl)) 32 := BoxC.keep (P := fun _ => False) ⟨heap_alloc_new _ _, ht _ (Nat.le_refl _)⟩ (StepC.alloc (ht.size b0.size) _) (fun h => h)
  have X1 : BoxC c2 ((w.alloc (.cells #[.string k, .int .u64 o, .int .u64 sl] 32)).alloc (.cells #[.string ⟨#[]⟩, .int .u64 0, .int .u64 0] 32)) (w.heap.size + 1) 0 (VE zeroE) 32 := by
    rw [← hsz]
    exact ⟨heap_alloc_new _ _, ht _ (by rw [hsz]; omega)⟩
  have t1 := ht.size b1.size
  have hGt := fGet_any (H.below ht b1) L t1 hs
  rw [hR] at hGt
  obtain ⟨W1, hW1⟩ : ∃ W, W = ((w.alloc (.cells #[.string k, .int .u64 o, .int .u64 sl] 32)).alloc (.cells #[.string ⟨#[]⟩, .int .u64 0, .int .u64 0] 32)) := ⟨_, rfl⟩
  obtain ⟨G5, hG5⟩ : ∃ G, w.heap.size = G := ⟨_, rfl⟩
  obtain ⟨G, hG⟩ : ∃ G, G5 + 1 = G := ⟨_, rfl⟩
  rw [← hW1] at X1 X5 t1 hGt b1
  rw [hG5] at X5
  rw [hG5, hG] at X1
  have hGW : w.heap.size ≤ G := by omega
  have hGt' : Calls Try.prog 10 #[.pointer (some ⟨g, 0, none⟩), .string s] W1 fun e w' => e = .returned (.tuple #[.agg #[.string s, .int .u64 ow, .int .u64 b], .bool true]) ∧ Below W1.heap.size W1 w' := hGt
  have HA := Lib.hid hAl
  have hnb : (an == 0) = false := beq_false_of_ne hne
  have hnb2 : (an != 0) = true := by rw [bne, hnb]; rfl
  clear b0 hp hsz H L hGt hAl han hR how hbb hi hbd htop
  go_enter Try.func12, Try.ntmps12
  go_wp2_with fail
  rw [← hW1]
  clear hW1
  refine hGt'.mono ?_
  rintro e w2 ⟨rfl, b2⟩
  have b3 : Below W1.heap.size W1 (w2.alloc (.cells #[.string s, .int .u64 ow, .int .u64 b] 32)) := b2.alloc b2.size _
  have X3 : BoxC c2 (w2.alloc (.cells #[.string s, .int .u64 ow, .int .u64 b] 32)) G 0 (VE zeroE) 32 := X1.keep (P := fun _ => False) (StepC.below t1 b3) (fun h => h)
  have X6 : BoxC c2 (w2.alloc (.cells #[.string s, .int .u64 ow, .int .u64 b] 32)) G5 0 (VE (k, o, sl)) 32 := X5.keep (P := fun _ => False) (StepC.below t1 b3) (fun h => h)
  have p0 : (w2.alloc (.cells #[.string s, .int .u64 ow, .int .u64 b] 32)).cell? ⟨G5, 0, none⟩ = some (.string k) := X6.cell 0 rfl
  have p1 : (w2.alloc (.cells #[.string s, .int .u64 ow, .int .u64 b] 32)).cell? ⟨G5, 1, none⟩ = some (.int .u64 o) := X6.cell 1 rfl
  have p2 : (w2.alloc (.cells #[.string s, .int .u64 ow, .int .u64 b] 32)).cell? ⟨G5, 2, none⟩ = some (.int .u64 sl) := X6.cell 2 rfl
  have q1 : (w2.alloc (.cells #[.string s, .int .u64 ow, .int .u64 b] 32)).cell? ⟨w2.heap.size, 1, none⟩ = some (.int .u64 ow) := (World.cell?_alloc_at (w := w2) _ _ _ _ rfl).trans rfl
  have bb := below_then b1 b3
  have hC : Calls Try.prog 37 #[.pointer (some ⟨g, 0, none⟩), .agg #[.string k, .int .u64 o, .int .u64 sl], .int .u64 ow] (w2.alloc (.cells #[.string s, .int .u64 ow, .int .u64 b] 32)) _ := HA.out (w2.alloc (.cells #[.string s, .int .u64 ow, .int .u64 b] 32)) bb
  have t3 := t1.size b3.size
  obtain ⟨W3, hW3⟩ : ∃ W, W = w2.alloc (.cells #[.string s, .int .u64 ow, .int .u64 b] 32) := ⟨_, rfl⟩
  rw [← hW3] at hC X3 t3 bb
  clear X1 X5 X6 hGt' b1 b2 b3 t1 HA
  go_wp2_with fail
  rw [← hW3]
  clear hW3 p0 p1 p2 q1
  refine hC.mono ?_
  rintro e w4 ⟨rfl, b4⟩
  have X4 := X3.keep (P := fun _ => False) (StepC.below t3 b4) (fun h => h)
  obtain ⟨hX, hB, z0, z1, z2, f0, f1, f2⟩ := boxE X4 (w0 := w) hGW (below_then bb b4) zeroE
  have z0' : w4.cell? ⟨G, 0, none⟩ = some (.string ⟨#[]⟩) := z0
  have z1' : w4.cell? ⟨G, 1, none⟩ = some (.int .u64 0) := z1
  have z2' : w4.cell? ⟨G, 2, none⟩ = some (.int .u64 0) := z2
  have HX := Lib.hid hX
  have HD := Lib.hid (show DidFT c2 w g t _ from ⟨c2, HT.out.below ht hB, StepC.below ht hB⟩)
  clear X3 X4 hC b4 bb hGW hG hG5 t3 z0 z1 z2 hX hB HT
  go_wp2
  refine bodyPost_ret (results_cell_row2 rfl _ _ G _ _ (0, 0) _ rfl HX.out Try.underlying32 rfl (by kernel_rfl)) rfl ?_
  exact ⟨rfl, HD.out⟩
set_option maxHeartbeats 4000000 in
theorem fSwap_ok {x : En} (T : SoFT c2 w g t) (ht : Tidy c2 w) (hs : s.size ≤ 281474976710656) (hk : e.1.size ≤ 281474976710656) (h1 : 0 ≤ e.2.1 ∧ e.2.1 ≤ 18446744073709551615) (h2 : 0 ≤ e.2.2 ∧ e.2.2 ≤ 18446744073709551615) (hp : placeE t.l s = some i) (hi : t.l[i]? = some x) (h0 : alF t e x.2.1 = 0) :
    Calls Try.prog 12 #[.pointer (some ⟨g, 0, none⟩), .string s, .agg (VE e)] w fun r w' => r = .returned (.tuple #[.agg (VE (t.getF s).1), .int .i64 0]) ∧ DidFT c2 w g (t.swapF s e).2 w' := by
  obtain ⟨gm, m, H, L⟩ := T
  have hbd := L.gT.bd (List.mem_of_getElem? hi)
  have htop := L.gT.top
  obtain ⟨c1, c2', c3⟩ := alF_zero h0
  obtain ⟨hSw, L2⟩ := L.swap hk h1.1 hp hi c1 c2' c3
  have hb : (t.swapF s e).2.base = t.base ∧ (t.swapF s e).2.sum = t.sum := by rw [hSw]; exact ⟨rfl, rfl⟩
  obtain ⟨t', ht'⟩ : ∃ t', (t.swapF s e).2 = t' := ⟨_, rfl⟩
  rw [ht'] at L2 hb ⊢
  have hAl := fun (c : Col) (W : World) (H : SoF c W g gm t.base t.sum m) (ht : Tidy c W) => fAllows_any (own := x.2.1) H L ht hk h1 h2 (by omega)
  simp only [h0] at hAl
  have hR : t.getF s = ((s, x.2.1, t.base), true) := by
    obtain ⟨x', hi', hx, _⟩ := placeE_some hp
    rw [hi] at hi'; injection hi' with hi'; subst hi'
    unfold TSt.getF; rw [hp]; simp only [hi, Option.getD_some]; unfold TSt.tellF; rw [hx]
  obtain ⟨k, o, sl⟩ := e
  have hk' : k.size ≤ 281474976710656 := hk
  have L2' : LkF t' ((m.del s).put k o).2 := L2
  have S0 : StepC (fun _ => False) c2 w c2 (w.alloc (.cells #[.string k, .int .u64 o, .int .u64 sl] 32)) := StepC.alloc ht _
  have hsz : (w.alloc (.cells #[.string k, .int .u64 o, .int .u64 sl] 32)).heap.size = w.heap.size + 1 := by simp
  have S1 : StepC (fun _ => False) c2 (w.alloc (.cells #[.string k, .int .u64 o, .int .u64 sl] 32)) (dye c2 (some (w.heap.size + 1)) 2) ((w.alloc (.cells #[.string k, .int .u64 o, .int .u64 sl] 32)).alloc (.cells #[.string ⟨#[]⟩, .int .u64 0, .int .u64 0] 32)) := by
    have := StepC.new S0.tidy (.cells #[.string ⟨#[]⟩, .int .u64 0, .int .u64 0] 32) 2 (fun _ => False)
    rwa [hsz] at this
  have X5 : BoxC (dye c2 (some (w.heap.size + 1)) 2) ((w.alloc (.cells #[.string k, .int .u64 o, .int .u64 sl] 32)).alloc (.cells #[.string ⟨#[]⟩, .int .u64 0, .int .u64 0] 32)) w.heap.size 0 (VE (k, o, sl)) 32 := BoxC.keep (P := fun _ => False) ⟨heap_alloc_new _ _, ht _ (Nat.le_refl _)⟩ S1 (fun h => h)
  have X1 : BoxC (dye c2 (some (w.heap.size + 1)) 2) ((w.alloc (.cells #[.string k, .int .u64 o, .int .u64 sl] 32)).alloc (.cells #[.string ⟨#[]⟩, .int .u64 0, .int .u64 0] 32)) (w.heap.size + 1) 2 (VE zeroE) 32 := by
    refine ⟨?_, dye_of⟩
    have := heap_alloc_new (w.alloc (.cells #[.string k, .int .u64 o, .int .u64 sl] 32)) (.cells #[.string ⟨#[]⟩, .int .u64 0, .int .u64 0] 32)
    rwa [hsz] at this
  have SS := S0.trans S1
  have H1 := H.keep SS (fun _ _ h => h) (fun h => h)
  have hGt := fGet_any H1 L SS.tidy hs
  rw [hR] at hGt ⊢
  obtain ⟨ow, how⟩ : ∃ ow, x.2.1 = ow := ⟨_, rfl⟩
  obtain ⟨b, hbb⟩ : ∃ b, t.base = b := ⟨_, rfl⟩
  obtain ⟨sm, hsm⟩ : ∃ sm, t.sum = sm := ⟨_, rfl⟩
  rw [how, hbb] at hGt ⊢
  rw [how, hbb, hsm] at hAl
  rw [hbb, hsm] at H1 hb
  have t1 := SS.tidy
  have S2 := SS.mono (P' := fun c => 2 ≤ c) (fun c hc => hc.elim)
  obtain ⟨cA, hcA⟩ : ∃ cA, cA = dye c2 (some (w.heap.size + 1)) 2 := ⟨_, rfl⟩
  obtain ⟨W1, hW1⟩ : ∃ W, W = ((w.alloc (.cells #[.string k, .int .u64 o, .int .u64 sl] 32)).alloc (.cells #[.string ⟨#[]⟩, .int .u64 0, .int .u64 0] 32)) := ⟨_, rfl⟩
  rw [← hW1] at hGt
  rw [← hcA, ← hW1] at X1 X5 t1 H1 S2
  obtain ⟨G5, hG5⟩ : ∃ G, w.heap.size = G := ⟨_, rfl⟩
  obtain ⟨G, hG⟩ : ∃ G, G5 + 1 = G := ⟨_, rfl⟩
  rw [hG5] at X5
  rw [hG5, hG] at X1
  have hGW : w.heap.size ≤ G := by omega
  have hGt' : Calls Try.prog 10 #[.pointer (some ⟨g, 0, none⟩), .string s] W1 fun e w' => e = .returned (.tuple #[.agg #[.string s, .int .u64 ow, .int .u64 b], .bool true]) ∧ Below W1.heap.size W1 w' := hGt
  have HA := Lib.hid hAl
  have HX := Lib.hid (And.intro X1 (And.intro X5 (And.intro H1 (And.intro t1 (And.intro S2 (And.intro L2' (And.intro hb.1 hb.2)))))))
  clear S0 S1 SS H L hGt hAl hR how hbb hsm hi hbd htop hp c1 c2' c3 hSw ht' L2 L2' hb X1 X5 H1 t1 S2 hcA hsz hk h1 h2 h0
  go_enter Try.func12, Try.ntmps12
  go_wp2_with fail
  rw [← hW1]
  clear hW1
  refine hGt'.mono ?_
  rintro e w2 ⟨rfl, b2⟩
  obtain ⟨X1, X5, H1, t1, S2, L2, hb1, hb2⟩ := HX.out
  have b3 : Below W1.heap.size W1 (w2.alloc (.cells #[.string s, .int .u64 ow, .int .u64 b] 32)) := b2.alloc b2.size _
  have S3 : StepC (fun _ => False) cA W1 cA (w2.alloc (.cells #[.string s, .int .u64 ow, .int .u64 b] 32)) := StepC.below t1 b3
  have X3 := X1.keep S3 (fun h => h)
  have X6 := X5.keep S3 (fun h => h)
  have Z3 : BoxC cA (w2.alloc (.cells #[.string s, .int .u64 ow, .int .u64 b] 32)) w2.heap.size 0 (VE (s, ow, b)) 32 := ⟨heap_alloc_new _ _, t1 _ b2.size⟩
  have H3 := H1.keep S3 (fun _ _ h => h) (fun h => h)
  have S4 := S2.trans (S3.mono (P' := fun c => 2 ≤ c) (fun c hc => hc.elim))
  have p0 : (w2.alloc (.cells #[.string s, .int .u64 ow, .int .u64 b] 32)).cell? ⟨G5, 0, none⟩ = some (.string k) := X6.cell 0 rfl
  have p1 : (w2.alloc (.cells #[.string s, .int .u64 ow, .int .u64 b] 32)).cell? ⟨G5, 1, none⟩ = some (.int .u64 o) := X6.cell 1 rfl
  have p2 : (w2.alloc (.cells #[.string s, .int .u64 ow, .int .u64 b] 32)).cell? ⟨G5, 2, none⟩ = some (.int .u64 sl) := X6.cell 2 rfl
  have q1 : (w2.alloc (.cells #[.string s, .int .u64 ow, .int .u64 b] 32)).cell? ⟨w2.heap.size, 1, none⟩ = some (.int .u64 ow) := (World.cell?_alloc_at (w := w2) _ _ _ _ rfl).trans rfl
  have t3 := S3.tidy
  have hC : Calls Try.prog 37 #[.pointer (some ⟨g, 0, none⟩), .agg #[.string k, .int .u64 o, .int .u64 sl], .int .u64 ow] (w2.alloc (.cells #[.string s, .int .u64 ow, .int .u64 b] 32)) _ := HA.out cA (w2.alloc (.cells #[.string s, .int .u64 ow, .int .u64 b] 32)) H3 t3
  obtain ⟨W3, hW3⟩ : ∃ W, W = w2.alloc (.cells #[.string s, .int .u64 ow, .int .u64 b] 32) := ⟨_, rfl⟩
  obtain ⟨GZ, hGZ⟩ : ∃ GZ, w2.heap.size = GZ := ⟨_, rfl⟩
  rw [← hW3] at hC X3 t3 X6 Z3 H3 S4
  rw [hGZ] at Z3
  have HS := Lib.hid (And.intro X3 (And.intro X6 (And.intro Z3 (And.intro H3 (And.intro t3 (And.intro S4 (And.intro L2 (And.intro hb1 hb2))))))))
  have HZ := Lib.hid hGZ
  clear X1 X5 X6 X3 Z3 H1 H3 S2 S3 S4 L2 hb1 hb2 hGt' b2 b3 t1 t3 HA HX hGZ
  go_wp2_with fail
  rw [← hW3]
  clear hW3 p0 p1 p2 q1
  refine hC.mono ?_
  rintro e w4 ⟨rfl, b4⟩
  obtain ⟨X3, X6, Z3, H3, t3, S4, L2, hb1, hb2⟩ := HS.out
  have s4 : StepC (fun _ => False) cA W3 cA w4 := StepC.below t3 b4
  have H4 := H3.keep s4 (fun _ _ h => h) (fun h => h)
  have hDl := delw_any H4.idx s4.tidy s hs
  have y0 := H4.c0
  have HS4 := Lib.hid (And.intro (X3.keep s4 (fun h => h)) (And.intro (X6.keep s4 (fun h => h)) (And.intro (Z3.keep s4 (fun h => h)) (And.intro H4 (S4.trans (s4.mono (P' := fun c => 2 ≤ c) (fun c hc => hc.elim)))))))
  have HL := Lib.hid (And.intro L2 (And.intro hb1 hb2))
  rw [HZ.out]
  clear hC HS X3 X6 Z3 H3 t3 S4 L2 hb1 hb2 b4 s4 H4 HZ
  go_wp2_with fail
  refine hDl.mono ?_
  rintro e w5 ⟨rfl, hd⟩
  obtain ⟨X4, X5, Z4, H4, S4⟩ := HS4.out
  obtain ⟨c5, H5, s5⟩ := H4.did hd
  have dr : StepC (fun c => 16 ≤ c) c5 w5 c5 w5.drew := StepC.drew s5.tidy
  have sd := s5.trans dr
  have H6 := H5.keep (StepC.drew (P := fun _ => False) s5.tidy) (fun _ _ h => h) (fun h => h)
  have X6 := X5.keep sd (by omega)
  have hP := putw_any H6.idx dr.tidy k o hk'
  have y6 := H6.c0
  have k0 : w5.drew.cell? ⟨G5, 0, none⟩ = some (.string k) := X6.cell 0 rfl
  have k1 : w5.drew.cell? ⟨G5, 1, none⟩ = some (.int .u64 o) := X6.cell 1 rfl
  have hP' : Calls Try.prog 38 #[.pointer (some ⟨gm, 0, none⟩), .string k, .int .u64 o] w5.drew fun e w' => e = .returned (.int .i64 ((m.del s).put k o).1) ∧ DidPM PMw c5 48 w5.drew gm ((m.del s).put k o).2 w' := hP
  have HS6 := Lib.hid (And.intro (X4.keep sd (by omega)) (And.intro X6 (And.intro (Z4.keep sd (by omega)) (And.intro H6 (S4.trans (sd.mono (P' := fun c => 2 ≤ c) (fun c hc => by omega)))))))
  clear hDl hd X4 X5 Z4 H4 S4 H5 s5 dr sd H6 X6 hP HS4 y0
  go_wp2
  go_region_held3 (fun W => W.cell? ⟨g, 0, none⟩ = some (.pointer (some ⟨gm, 0, none⟩)) ∧ W.cell? ⟨G5, 0, none⟩ = some (.string k) ∧ W.cell? ⟨G5, 1, none⟩ = some (.int .u64 o)) (first | exact ⟨y6, k0, k1⟩ | exact HQ.out) ((go_at_call 38; refine hP'.mono ?_; rintro e' w7 ⟨rfl, hd⟩; have HQ := Lib.hid (show w7.cell? ⟨g, 0, none⟩ = some (.pointer (some ⟨gm, 0, none⟩)) ∧ w7.cell? ⟨G5, 0, none⟩ = some (.string k) ∧ w7.cell? ⟨G5, 1, none⟩ = some (.int .u64 o) from swap_cells HS6.out.2.2.2.1 HS6.out.2.1 hd)))
  obtain ⟨X6, _, Z6, H6, S6⟩ := HS6.out
  obtain ⟨c7, H7, s7⟩ := H6.did hd
  have X7 := X6.keep s7 (by omega)
  have Z7 := Z6.keep s7 (by omega)
  have S7 := S6.trans (s7.mono (P' := fun c => 2 ≤ c) (fun c hc => by omega))
  obtain ⟨u1, u2, hX, z0, z1, z2, f0, f1, f2⟩ := vboxed S7 X7 hGW (s, ow, b)
  have z0' : w7.cell? ⟨G, 0, none⟩ = some (.string ⟨#[]⟩) := z0
  have z1' : w7.cell? ⟨G, 1, none⟩ = some (.int .u64 0) := z1
  have z2' : w7.cell? ⟨G, 2, none⟩ = some (.int .u64 0) := z2
  have v0 : w7.cell? ⟨GZ, 0, none⟩ = some (.string s) := Z7.cell 0 rfl
  have v1 : w7.cell? ⟨GZ, 1, none⟩ = some (.int .u64 ow) := Z7.cell 1 rfl
  have v2 : w7.cell? ⟨GZ, 2, none⟩ = some (.int .u64 b) := Z7.cell 2 rfl
  have HY := Lib.hid hX
  have HD := Lib.hid (show DidFT c2 w g t' _ from by
    obtain ⟨L2, hb1, hb2⟩ := HL.out
    exact ⟨c7, ⟨gm, _, by rw [hb2, hb1]; exact H7.keep u1 (fun c hc => by omega) (by omega), L2⟩, u2⟩)
  clear HQ hd HS6 X6 Z6 H6 S6 H7 s7 X7 Z7 S7 u1 u2 hX z0 z1 z2 HL hGW hG hG5 hP' y6 k0 k1
  go_wp2
  refine bodyPost_ret (results_cell_row2 rfl _ _ G _ _ (0, 0) _ rfl HY.out Try.underlying32 rfl (by kernel_rfl)) rfl ?_
  exact ⟨rfl, HD.out⟩
theorem fSwap_any (T : SoFT c2 w g t) (ht : Tidy c2 w) (hs : s.size ≤ 281474976710656) (hk : e.1.size ≤ 281474976710656) (h1 : 0 ≤ e.2.1 ∧ e.2.1 ≤ 18446744073709551615) (h2 : 0 ≤ e.2.2 ∧ e.2.2 ≤ 18446744073709551615) :
    Calls Try.prog 12 #[.pointer (some ⟨g, 0, none⟩), .string s, .agg (VE e)] w fun r w' => r = .returned (.tuple #[.agg (VE (t.swapF s e).1.1), .int .i64 (t.swapF s e).1.2]) ∧ DidFT c2 w g (t.swapF s e).2 w' := by
  cases hp : placeE t.l s with
  | none =>
    have hS : t.swapF s e = ((zeroE, 8), t) := by unfold TSt.swapF; rw [hp]
    rw [hS]
    exact fSwap_no T ht hs e hp
  | some i =>
    obtain ⟨x, hi, _, _⟩ := placeE_some hp
    have hA := swapF_al (e := e) hp hi
    by_cases h0 : alF t e x.2.1 = 0
    · have hC := fSwap_ok T ht hs hk h1 h2 hp hi h0
      rw [if_pos h0] at hA
      rw [hA] at hC ⊢
      exact hC
    · have hC := fSwap_ref T ht hs hk h1 h2 hp hi h0
      rw [if_neg h0] at hA
      rw [hA]
      exact hC
end
end Go.Proofs.Ytgkokglngpbamaa
