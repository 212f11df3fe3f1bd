/- The statements about package table: TableNew. Conditions: the program's tables are made, and keep their contracts (New0, ProgTbl, ProgTbn). -/
import Derived.Test.YtajkcjbkbihgjaaGreatOtawake
import Derived.Test.YtajkcjbkbihgjaaGreatTb0
namespace Go.Proofs.YtajkcjbkbihgjaaGreat
open Go.ChangeShapes Go.WideShapes Go.ChangeAt Go.RowKit
set_option linter.unusedVariables false
set_option linter.unusedSimpArgs false
set_option maxRecDepth 100000

/-- What stands in a round of TableNew: three pairs. -/
structure NwI (w : World) (col : Col) (W : World) (bI : Nat) (l : List (Int × Int)) : Prop where
  since : Since w col W
  len : l.length = 3
  row : ∀ q p, l[q]? = some p → W.cell? ⟨bI, q * 2, none⟩ = some (.int .i64 p.1) ∧ W.cell? ⟨bI, q * 2 + 1, none⟩ = some (.int .i64 p.2) ∧ J64 p.1 ∧ J64 p.2
  c0 : col bI = 0
section
variable {w W W' : World} {col col' : Col} {bI : Nat} {l : List (Int × Int)} {P : Nat → Prop}
theorem NwI.step (h : NwI w col W bI l) (s : StepC P col W col' W') (hz : ¬ P 0) : NwI w col' W' bI l := by
  have hl : bI < W.heap.size := by
    obtain ⟨p, hp⟩ : ∃ p, l[0]? = some p := ⟨_, List.getElem?_eq_getElem (by rw [h.len]; omega)⟩
    exact World.block_lt_of_cell? W _ (h.row 0 p hp).1
  refine ⟨h.since.step s hz, h.len, fun q p hq => ?_, (s.kept bI hl).trans h.c0⟩
  obtain ⟨h1, h2, h3⟩ := h.row q p hq
  exact ⟨s.cell h1 (by show ¬ P (col bI); rw [h.c0]; exact hz), s.cell h2 (by show ¬ P (col bI); rw [h.c0]; exact hz), h3⟩
theorem NwI.below (h : NwI w col W bI l) (hb : Below W.heap.size W W') : NwI w col W' bI l := h.step (P := fun _ => False) (StepC.below h.since.tidy hb) (fun h => h)
end
set_option maxHeartbeats 8000000 in
theorem tableNew_walk (HN0 : ∀ (w : World) (mode n : Int), J64 mode → J64 n → Calls Tryz.prog 8 #[.int .i64 mode, .int .i64 n] w (New0 (nwTb mode n) w)) (HL : ProgTbl) (HN : ProgTbn) (mode n total : Int) (w : World) (m0 : -9223372036854775808 ≤ mode) (m1 : mode ≤ 9223372036854775807) (n0 : -9223372036854775808 ≤ n) (n1 : n ≤ 9223372036854775807) (t0 : 0 ≤ total) (t1 : total ≤ 18446744073709551615) :
    Calls Tryz.prog 3 #[.int .i64 mode, .int .i64 n, .int .u64 total] w (Yes w) := by
  obtain ⟨X, hXm, hX⟩ := mask_any n 127 (by omega)
  have hX' : bits .and .i64 n 127 = (X : Int) := hX
  obtain ⟨Y, hYm, hY⟩ := mask_any mode 3 (by omega)
  have hY' : bits .and .i64 mode 3 = (Y : Int) := hY
  clear hX hY
  have S3 := Since.start w
  have b4 : Below w.heap.size w (w.alloc (.cells #[.int .i64 mode, .int .i64 n, .int .i64 (Y : Int), .int .i64 (X : Int), .int .i64 (Y : Int), .int .i64 n] 23)) := (Below.refl _ _).alloc (Nat.le_refl _) _
  have N4 : NwI w (fun _ => 0) (w.alloc (.cells #[.int .i64 mode, .int .i64 n, .int .i64 (Y : Int), .int .i64 (X : Int), .int .i64 (Y : Int), .int .i64 n] 23)) w.heap.size [(mode, n), ((Y : Int), (X : Int)), ((Y : Int), n)] := by
    refine ⟨S3.belowL b4, rfl, fun q p hq => ?_, rfl⟩
    rw [World.cell?_alloc_at _ _ _ _ rfl, World.cell?_alloc_at _ _ _ _ rfl]
    match q, hq with
    | 0, hq => simp at hq; subst hq; exact ⟨rfl, rfl, ⟨m0, m1⟩, ⟨n0, n1⟩⟩
    | 1, hq => simp at hq; subst hq; exact ⟨rfl, rfl, by unfold J64; omega, by unfold J64; omega⟩
    | 2, hq => simp at hq; subst hq; exact ⟨rfl, rfl, by unfold J64; omega, ⟨n0, n1⟩⟩
    | q + 3, hq => simp at hq
  have hT64 : W64 total := ⟨t0, t1⟩
  clear S3 b4
  go_enter Tryz.func3, Tryz.ntmps3
  go_wp2
  generalize hl3 : [(mode, n), ((Y : Int), (X : Int)), ((Y : Int), n)] = l3 at N4
  obtain ⟨bI, hbI⟩ : ∃ bI, w.heap.size = bI := ⟨_, rfl⟩
  obtain ⟨W0, hW0⟩ : ∃ W0, w.alloc (.cells #[.int .i64 mode, .int .i64 n, .int .i64 (Y : Int), .int .i64 (X : Int), .int .i64 (Y : Int), .int .i64 n] 23) = W0 := ⟨_, rfl⟩
  rw [hW0, hbI] at N4 ⊢
  clear hl3 hW0 hbI
  go_loopw [36] (fun i wr => ∃ (q : Nat) (col : Col), q ≤ 3 ∧ i = .int .i64 q ∧ NwI w col wr bI l3) (fun i _ => 3 - (intOf i).toNat)
  case atStart => exact ⟨0, _, by omega, rfl, N4⟩
  case round =>
    clear N4
    obtain ⟨q, col, hq, rfl, R⟩ := hrel
    by_cases hlt : q < 3
    · obtain ⟨⟨x, y⟩, hp⟩ : ∃ p, l3[q]? = some p := ⟨_, List.getElem?_eq_getElem (by rw [R.len]; exact hlt)⟩
      obtain ⟨c1, c2, jx, jy⟩ := R.row q _ hp
      have c1' : wr.cell? ⟨bI, q * 2, none⟩ = some (.int .i64 x) := c1
      have c2' : wr.cell? ⟨bI, q * 2 + 1, none⟩ = some (.int .i64 y) := c2
      have hqi : (q : Int) < 3 := by omega
      have bA : Below wr.heap.size wr (wr.alloc (.cells #[.int .i64 x, .int .i64 y] 23)) := (Below.refl _ _).alloc (Nat.le_refl _) _
      have Ra1 := R.below bA
      have k1 : (wr.alloc (.cells #[.int .i64 x, .int .i64 y] 23)).cell? ⟨wr.heap.size, 0, none⟩ = some (.int .i64 x) := (World.cell?_alloc_at (w := wr) _ _ _ _ rfl).trans rfl
      have k2 : (wr.alloc (.cells #[.int .i64 x, .int .i64 y] 23)).cell? ⟨wr.heap.size, 1, none⟩ = some (.int .i64 y) := (World.cell?_alloc_at (w := wr) _ _ _ _ rfl).trans rfl
      have XA : BoxC col (wr.alloc (.cells #[.int .i64 x, .int .i64 y] 23)) wr.heap.size 0 #[.int .i64 x, .int .i64 y] 23 := ⟨heap_alloc_new wr _, R.since.tidy _ (Nat.le_refl _)⟩
      have hNw := HN0 (wr.alloc (.cells #[.int .i64 x, .int .i64 y] 23)) x y jx jy
      obtain ⟨WA, hWA⟩ : ∃ WA, wr.alloc (.cells #[.int .i64 x, .int .i64 y] 23) = WA := ⟨_, rfl⟩
      obtain ⟨GA, hGA⟩ : ∃ GA, wr.heap.size = GA := ⟨_, rfl⟩
      rw [hWA] at hNw Ra1 XA
      rw [hGA] at XA
      have HW := Lib.hid (And.intro hWA hGA)
      clear R c1 c2 hp bA hWA hGA
      go_wp2_with fail
      rw [HW.out.1, HW.out.2]
      clear HW k1 k2
      obtain ⟨z, hz⟩ : ∃ z, nwTb x y = z := ⟨_, rfl⟩
      refine hNw.mono ?_
      rintro e w5 (⟨hE, g, rfl, hb5⟩ | ⟨hE, rfl, hb5⟩)
      all_goals
        have R5 := Ra1.below hb5
        have X5 := XA.keep (P := fun _ => False) (StepC.below Ra1.since.tidy hb5) (fun h => h)
        clear hb5
        rw [hz] at hE
        have y1 : w5.cell? ⟨GA, 0, none⟩ = some (.int .i64 x) := X5.cell 0 rfl
        have y2 : w5.cell? ⟨GA, 1, none⟩ = some (.int .i64 y) := X5.cell 1 rfl
        clear Ra1 XA c1' c2' hNw
        go_wp2_with fail
        refine (rbNew (k := 32) R5.since.tidy (by omega) x y jx jy).mono ?_
        rintro e w6 (⟨hF, g', rfl, colq, _, sq⟩ | ⟨hF, rfl, hb6⟩)
      all_goals
        rw [hz] at hF
        first
          | (exact absurd hE (by rw [hF]; decide))
          | (exact absurd hF (by rw [hE]; decide))
          | (have R6 := R5.step sq (rng0 (by omega))
             have X6 := X5.keep sq (rng0 (by omega))
             clear sq)
          | (have R6 := R5.below hb6
             have X6 := X5.keep (P := fun _ => False) (StepC.below R5.since.tidy hb6) (fun h => h)
             clear hb6)
      all_goals
        clear R5 X5 y1 y2
        try rw [hz]
        obtain ⟨lim, hlim⟩ : ∃ lim, limE x y total = lim := ⟨_, rfl⟩
        have hL1 := fun W => HL.limit W x y total jx jy hT64
        have hL2 := fun W => rbLimit x y total W jx jy hT64
        simp only [hlim] at hL1 hL2
        have v1 : w6.cell? ⟨GA, 0, none⟩ = some (.int .i64 x) := X6.cell 0 rfl
        have v2 : w6.cell? ⟨GA, 1, none⟩ = some (.int .i64 y) := X6.cell 1 rfl
        have e0 : (z != z) = false := by simp
        have e1 : (lim != lim) = false := by simp
        have c1 : ∀ W, Calls Tryz.prog 10 #[.int .i64 x, .int .i64 y, .int .u64 total] W fun e w' => e = .returned (.int .u64 lim) ∧ w' = W := hL1
        have c2 : ∀ W, Calls Tryz.prog 11 #[.int .i64 x, .int .i64 y, .int .u64 total] W fun e w' => e = .returned (.int .u64 lim) ∧ w' = W := fun W => (hL2 W).mono (by rintro e w' ⟨h1, h2⟩; exact ⟨h1, h2.symm⟩)
        have HR := Lib.hid R6
        clear R6 X6 hlim hL1 hL2
        have e2 : (z != 0) = decide (¬ z = 0) := by by_cases hh : z = 0 <;> simp [hh]
        first
          | (have e3 : (z != 0) = false := by rw [e2]; simp [hE])
          | (have e3 : (z != 0) = true := by rw [e2]; simp [hE])
        clear e2
        have HE := Lib.hid (And.intro hE (And.intro hF hz))
        clear hE hF hz
        go_wp2
        go_quiet (first | (go_at_call 10; exact Calls.quiet_of_same (c1 _)) | (go_at_call 11; exact Calls.quiet_of_same (c2 _)))
        go_wp2
        go_roundw
        case rel => exact ⟨q + 1, _, by omega, by go_num, HR.out.below (below_drewN (Below.refl _ _) _)⟩
        case measure => (simp [intOf] <;> omega)
    · have S4 := R.since
      have hqi : ¬ (q : Int) < 3 := by omega
      clear R
      go_wp2_with fail
      refine (HN.get _ _).mono ?_
      rintro e w5 ⟨x5, rfl, hb5⟩
      have S5 := S4.belowL (hb5.alloc hb5.size (.cells (VE x5) 34))
      clear S4 hb5
      go_wp2_with fail
      refine (HN.take _ _).mono ?_
      rintro e w6 ⟨x6, rfl, hb6⟩
      have S6 := S5.belowL (hb6.alloc hb6.size (.cells (VE x6) 34))
      clear S5 hb6
      have hSw := fun W => HN.swap W ⟨#[97]⟩ (⟨#[98]⟩, 0, 0)
      go_wp2_with fail
      refine (hSw _).mono ?_
      rintro e w7 ⟨x7, rfl, hb7⟩
      have S7 := S6.belowL (hb7.alloc hb7.size (.cells (VE x7) 34))
      clear S6 hb7 hSw
      have hBn : ∀ (W : World) (s : ByteArray), Calls Tryz.prog 15 #[.pointer none, .string s] W fun e w' => e = .returned (.tuple #[.agg #[.int .u64 0, .int .u64 0], .bool false]) ∧ Below W.heap.size W w' := fun W s => HN.bounds W s
      go_wp2_with fail
      refine (hBn _ _).mono ?_
      rintro e w8 ⟨rfl, hb8⟩
      have S8 := S7.belowL (hb8.alloc hb8.size (.cells #[.int .u64 0, .int .u64 0] 40))
      have X8 : BoxC col (w8.alloc (.cells #[.int .u64 0, .int .u64 0] 40)) w8.heap.size 0 #[.int .u64 0, .int .u64 0] 40 := ⟨heap_alloc_new w8 _, S7.tidy _ hb8.size⟩
      clear S7 hb8 hBn
      go_wp2_with fail
      refine (HN.add _ _ _).mono ?_
      rintro e w9 ⟨rfl, hb9⟩
      have X9 := X8.keep (P := fun _ => False) (StepC.below S8.tidy hb9) (fun h => h)
      have S9 := S8.belowL hb9
      clear S8 hb9 X8
      have z0 : w9.cell? ⟨w8.heap.size, 0, none⟩ = some (.int .u64 0) := X9.cell 0 rfl
      have z1 : w9.cell? ⟨w8.heap.size, 1, none⟩ = some (.int .u64 0) := X9.cell 1 rfl
      clear X9
      go_wp2_with fail
      refine (HN.untr _).mono ?_
      rintro e w10 ⟨rfl, hb10⟩
      have S10 := S9.belowL hb10
      clear S9 hb10 z0 z1
      go_wp2_with fail
      refine (HN.total _).mono ?_
      rintro e w11 ⟨rfl, hb11⟩
      have S11 := S10.belowL hb11
      clear S10 hb11
      go_wp2_with fail
      refine (HN.len _).mono ?_
      rintro e w12 ⟨rfl, hb12⟩
      have S12 := S11.belowL hb12
      clear S11 hb12
      go_wp2_with fail
      refine (HN.entries _).mono ?_
      rintro e w13 ⟨A13, c13, rfl, hb13⟩
      have S13 := S12.belowL hb13
      clear S12 hb13
      go_wp2_with fail
      refine (tawake_any HL _).mono ?_
      rintro e WI ⟨rfl, hbI⟩
      have hb := (S13.belowL hbI).below
      clear S13 hbI
      go_wp2
      go_ret
      exact ⟨rfl, hb⟩
end Go.Proofs.YtajkcjbkbihgjaaGreat
