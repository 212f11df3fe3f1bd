/- The statements about package countmin: CountminNew. Conditions: the program's sketches keep their contracts (ProgSk, ProgSn). -/
import Derived.Test.YtcckfdhajbbieaaOkawake
import Derived.Test.YtcckfdhajbbieaaKmask
import Derived.Test.YtcckfdhajbbieaaUdeck
import Derived.Test.YtcckfdhajbbieaaUlift
import Derived.Test.YtcckfdhajbbieaaKdeck
namespace Go.Proofs.Ytcckfdhajbbieaa
open Go.ChangeShapes Go.WideShapes Go.ChangeAt Go.RowKit
set_option linter.unusedVariables false
set_option linter.unusedSimpArgs false
set_option maxRecDepth 100000

/-- A new object, or nil and an error; elder blocks stand. -/
def MkK (er : Int) (w : World) (e : Ending) (w' : World) : Prop :=
  ∃ A : Option Addr, ((er = 0 ∧ ∃ g, A = some ⟨g, 0, none⟩) ∨ (er ≠ 0 ∧ A = none)) ∧ e = .returned (.tuple #[.pointer A, .int .i64 er]) ∧ Below w.heap.size w w'
section
variable {PK : RepSk} {w : World} {TA : Option Addr} {tn tc : Nat} {T : List Int} {sd depth width : Int}
theorem mkP (HP : ProgSk PK) (hT : RdU w TA tn tc T) (hd : J64 depth) (hw : J64 width) (hs : 0 ≤ sd ∧ sd ≤ 18446744073709551615) :
    Calls Try.prog 12 #[.int .i64 depth, .int .i64 width, .slice TA tn tc, .int .u64 sd] w (MkK (ckE depth width tn) w) := by
  refine (HP.new (k := 16) (Since.start w).tidy (by omega) hT depth width hd hw hs).mono ?_
  rintro e w' (⟨h0, g, rfl, col, _, s⟩ | ⟨h0, rfl, hb⟩)
  · exact ⟨_, .inl ⟨h0, g, rfl⟩, by rw [h0], ((Since.start w).step s (rng0 (by omega))).below⟩
  · exact ⟨none, .inr ⟨h0, rfl⟩, rfl, hb⟩
theorem mkR (hT : RdU w TA tn tc T) (hd : J64 depth) (hw : J64 width) (hs : 0 ≤ sd ∧ sd ≤ 18446744073709551615) :
    Calls Try.prog 13 #[.int .i64 depth, .int .i64 width, .slice TA tn tc, .int .u64 sd] w (MkK (ckE depth width tn) w) := by
  refine (skNew (k := 16) (Since.start w).tidy (by omega) hT depth width hd hw hs).mono ?_
  rintro e w' (⟨h0, g, rfl, col, _, s⟩ | ⟨h0, rfl, hb⟩)
  · exact ⟨_, .inl ⟨h0, g, rfl⟩, by rw [h0], ((Since.start w).step s (rng0 (by omega))).below⟩
  · exact ⟨none, .inr ⟨h0, rfl⟩, rfl, hb⟩
end
/-- What stands in a round: three pairs. -/
structure NwK (w : World) (W : World) (bI : Nat) (l : List (Int × Int)) : Prop where
  below : Below w.heap.size w W
  len : l.length = 3
  row : ∀ q p, l[q]? = some p → W.cell? ⟨bI, q * 2, none⟩ = some (.int .i64 p.1) ∧ W.cell? ⟨bI, q * 2 + 1, none⟩ = some (.int .i64 p.2) ∧ J64 p.1 ∧ J64 p.2
theorem NwK.next {w W W' : World} {bI : Nat} {l : List (Int × Int)} (h : NwK w W bI l) (hb : Below W.heap.size W W') : NwK w W' bI l := by
  refine ⟨below_then h.below hb, h.len, fun q p hq => ?_⟩
  obtain ⟨h1, h2, h3⟩ := h.row q p hq
  exact ⟨(hb.cell (p := ⟨bI, q * 2, none⟩) (World.block_lt_of_cell? W _ h1)).trans h1, (hb.cell (p := ⟨bI, q * 2 + 1, none⟩) (World.block_lt_of_cell? W _ h2)).trans h2, h3⟩
set_option maxHeartbeats 8000000 in
theorem countminNew_walk {PK : RepSk} (HP : ProgSk PK) (HN : ProgSn) (depth width : Int) (B : Option Addr) (p c : Nat) (A : Option Addr) (m d : Nat) (w : World) (m0 : -9223372036854775808 ≤ depth) (m1 : depth ≤ 9223372036854775807) (n0 : -9223372036854775808 ≤ width) (n1 : width ≤ 9223372036854775807) (hB : ArgU w B p c) (hA : RdI w A m d) :
    Calls Try.prog 3 #[.int .i64 depth, .int .i64 width, .slice B p c, .slice A m d] w (Yes w) := by
  obtain ⟨L, hB⟩ := hB
  have hcp := hB.cap
  have hcm := hB.max
  by_cases h40 : 40 < p
  · have h40' : (40 : Int) < (p : Int) := by omega
    go_enter Try.func3, Try.ntmps3
    go_wp2_with fail
    refine (kawake_any HP _).mono ?_
    rintro e WI ⟨rfl, hbI⟩
    go_wp2
    go_ret
    exact ⟨rfl, hbI⟩
  have h40' : ¬ (40 : Int) < (p : Int) := by omega
  obtain ⟨X, hXm, hX⟩ := mask_any depth 7 (by omega)
  have hX' : bits .and .i64 depth 7 = (X : Int) := hX
  obtain ⟨Y, hYm, hY⟩ := mask_any width 511 (by omega)
  have hY' : bits .and .i64 width 511 = (Y : Int) := hY
  clear hX hY
  have D1 := DkS.new hA
  have hNd := new_any A m d w
  obtain ⟨w1, hw1⟩ : ∃ w1, w.alloc (.cells #[.slice A m d, .int .i64 0] 58) = w1 := ⟨_, rfl⟩
  rw [hw1] at hNd D1
  have hTd := table_dk D1.dk
  go_enter Try.func3, Try.ntmps3
  go_wp2_with fail
  refine hNd.mono ?_
  rintro e w2 ⟨rfl, hw2⟩
  subst hw2
  clear hNd
  go_wp2_with fail
  refine hTd.mono ?_
  rintro e w3 ⟨kt, ct, T, rfl, hT3, _, hD3, hg3⟩
  have S3 := (D1.deck hD3 hg3).1.since
  have hb3 := S3.below
  have N4 : NwK w (w3.alloc (.cells #[.int .i64 depth, .int .i64 width, .int .i64 (X : Int), .int .i64 (Y : Int), .int .i64 2, .int .i64 width] 28)) w3.heap.size [(depth, width), ((X : Int), (Y : Int)), (2, width)] := by
    refine ⟨below_then hb3 ((Below.refl _ _).alloc (Nat.le_refl _) _), rfl, fun q p hq => ?_⟩
    rw [World.cell?_alloc_at _ _ _ _ rfl, World.cell?_alloc_at _ _ _ _ rfl]
    match q, hq with
    | 0, hq => simp at hq; subst hq; exact ⟨rfl, rfl, ⟨m0, m1⟩, ⟨n0, n1⟩⟩
    | 1, hq => simp at hq; subst hq; exact ⟨rfl, rfl, by unfold J64; omega, by unfold J64; omega⟩
    | 2, hq => simp at hq; subst hq; exact ⟨rfl, rfl, by unfold J64; omega, ⟨n0, n1⟩⟩
    | q + 3, hq => simp at hq
  have hT4 := hT3.below ((Below.refl w3.heap.size w3).alloc (Nat.le_refl _) (.cells #[.int .i64 depth, .int .i64 width, .int .i64 (X : Int), .int .i64 (Y : Int), .int .i64 2, .int .i64 width] 28))
  clear hTd D1 hD3 hg3 S3 hb3 hT3 hw1 hA
  go_wp2
  generalize hl3 : [(depth, width), ((X : Int), (Y : Int)), (2, width)] = l3 at N4
  obtain ⟨bI, hbI⟩ : ∃ bI, w3.heap.size = bI := ⟨_, rfl⟩
  obtain ⟨W0, hW0⟩ : ∃ W0, w3.alloc (.cells #[.int .i64 depth, .int .i64 width, .int .i64 (X : Int), .int .i64 (Y : Int), .int .i64 2, .int .i64 width] 28) = W0 := ⟨_, rfl⟩
  rw [hbI] at N4 ⊢
  rw [hW0] at N4 hT4 ⊢
  clear hl3 hW0 hbI
  go_loopw [40] (fun i wr => ∃ q : Nat, q ≤ 3 ∧ i = .int .i64 q ∧ NwK w wr bI l3 ∧ RdU wr (some ⟨kt, 0, none⟩) 16 ct T) (fun i _ => 3 - (intOf i).toNat)
  case atStart => exact ⟨0, by omega, rfl, N4, hT4⟩
  case round =>
    clear N4 hT4
    obtain ⟨q, hq, rfl, R, hT⟩ := hrel
    by_cases hlt : q < 3
    · obtain ⟨⟨x, y⟩, hp⟩ : ∃ p, l3[q]? = some p := ⟨_, List.getElem?_eq_getElem (by rw [R.len]; exact hlt)⟩
      obtain ⟨c1, c2, jx, jy⟩ := R.row q _ hp
      have c1' : wr.cell? ⟨bI, q * 2, none⟩ = some (.int .i64 x) := c1
      have c2' : wr.cell? ⟨bI, q * 2 + 1, none⟩ = some (.int .i64 y) := c2
      have hqi : (q : Int) < 3 := by omega
      have bA : Below wr.heap.size wr (wr.alloc (.cells #[.int .i64 x, .int .i64 y] 28)) := (Below.refl _ _).alloc (Nat.le_refl _) _
      have R1 := R.next bA
      have T1 := hT.below bA
      have XA : BoxC (fun _ => 0) (wr.alloc (.cells #[.int .i64 x, .int .i64 y] 28)) wr.heap.size 0 #[.int .i64 x, .int .i64 y] 28 := ⟨heap_alloc_new wr _, rfl⟩
      have k1 : (wr.alloc (.cells #[.int .i64 x, .int .i64 y] 28)).cell? ⟨wr.heap.size, 0, none⟩ = some (.int .i64 x) := (World.cell?_alloc_at (w := wr) _ _ _ _ rfl).trans rfl
      have k2 : (wr.alloc (.cells #[.int .i64 x, .int .i64 y] 28)).cell? ⟨wr.heap.size, 1, none⟩ = some (.int .i64 y) := (World.cell?_alloc_at (w := wr) _ _ _ _ rfl).trans rfl
      obtain ⟨WA, hWA⟩ : ∃ WA, wr.alloc (.cells #[.int .i64 x, .int .i64 y] 28) = WA := ⟨_, rfl⟩
      obtain ⟨GA, hGA⟩ : ∃ GA, wr.heap.size = GA := ⟨_, rfl⟩
      rw [hWA] at R1 T1 XA
      rw [hGA] at XA
      have hLR := hB.below R1.below
      obtain ⟨z, hz⟩ : ∃ z, ckE x y p = z := ⟨_, rfl⟩
      obtain ⟨u, hu⟩ : ∃ u, ckE x y 16 = u := ⟨_, rfl⟩
      have hC1 := fun (W : World) (h : RdU W B p c L) => mkP (sd := 1) HP h jx jy (by omega)
      have hC2 := fun (W : World) (h : RdU W B p c L) => mkR (sd := 1) h jx jy (by omega)
      have hC3 := fun (W : World) (h : RdU W (some ⟨kt, 0, none⟩) 16 ct T) => mkP (sd := 1) HP h jx jy (by omega)
      have hC4 := fun (W : World) (h : RdU W (some ⟨kt, 0, none⟩) 16 ct T) => mkR (sd := 1) h jx jy (by omega)
      simp only [hz] at hC1 hC2
      simp only [hu] at hC3 hC4
      have HW := Lib.hid (And.intro hWA hGA)
      clear R c1 c2 hp bA hWA hGA hT
      go_wp2_with fail
      rw [HW.out.1, HW.out.2]
      clear HW k1 k2
      refine (hC1 _ hLR).mono ?_
      rintro e w5 ⟨A5, hA5, rfl, hb5⟩
      have R5 := R1.next hb5
      have T5 := T1.below hb5
      have L5 := hB.below R5.below
      have X5 := XA.keep (P := fun _ => False) (StepC.below (fun _ _ => rfl) hb5) (fun h => h)
      have y1 : w5.cell? ⟨GA, 0, none⟩ = some (.int .i64 x) := X5.cell 0 rfl
      have y2 : w5.cell? ⟨GA, 1, none⟩ = some (.int .i64 y) := X5.cell 1 rfl
      clear R1 T1 XA hLR hb5 c1' c2'
      go_wp2_with fail
      refine (hC2 _ L5).mono ?_
      rintro e w6 ⟨A6, hA6, rfl, hb6⟩
      have R6 := R5.next hb6
      have T6 := T5.below hb6
      have X6 := X5.keep (P := fun _ => False) (StepC.below (fun _ _ => rfl) hb6) (fun h => h)
      have z1 : w6.cell? ⟨GA, 0, none⟩ = some (.int .i64 x) := X6.cell 0 rfl
      have z2 : w6.cell? ⟨GA, 1, none⟩ = some (.int .i64 y) := X6.cell 1 rfl
      clear R5 T5 X5 L5 hb6 y1 y2
      go_wp2_with fail
      refine (hC3 _ T6).mono ?_
      rintro e w7 ⟨A7, hA7, rfl, hb7⟩
      have R7 := R6.next hb7
      have T7 := T6.below hb7
      have X7 := X6.keep (P := fun _ => False) (StepC.below (fun _ _ => rfl) hb7) (fun h => h)
      have v1 : w7.cell? ⟨GA, 0, none⟩ = some (.int .i64 x) := X7.cell 0 rfl
      have v2 : w7.cell? ⟨GA, 1, none⟩ = some (.int .i64 y) := X7.cell 1 rfl
      clear R6 T6 X6 hb7 z1 z2
      go_wp2_with fail
      refine (hC4 _ T7).mono ?_
      rintro e w8 ⟨A8, hA8, rfl, hb8⟩
      have HR := Lib.hid (And.intro (R7.next hb8) (T7.below hb8))
      clear R7 T7 X7 hb8 v1 v2 hC1 hC2 hC3 hC4
      have e0 : (z != z) = false := by simp
      have e1 : (u != u) = false := by simp
      have f1 : ((Value.pointer A5) = .pointer none ∧ (z != 0) = true) ∨ (∃ g, A5 = some ⟨g, 0, none⟩ ∧ (z != 0) = false) := by
        rcases hA5 with ⟨h, g, rfl⟩ | ⟨h, rfl⟩
        · exact .inr ⟨g, rfl, by simp [h]⟩
        · exact .inl ⟨rfl, by simp [h]⟩
      have f2 : ((Value.pointer A7) = .pointer none ∧ (u != 0) = true) ∨ (∃ g, A7 = some ⟨g, 0, none⟩ ∧ (u != 0) = false) := by
        rcases hA7 with ⟨h, g, rfl⟩ | ⟨h, rfl⟩
        · exact .inr ⟨g, rfl, by simp [h]⟩
        · exact .inl ⟨rfl, by simp [h]⟩
      clear hA5 hA6 hA7 hA8 hz hu
      rcases f1 with ⟨f1, g1⟩ | ⟨g5, rfl, g1⟩
      all_goals
        rcases f2 with ⟨f2, g2⟩ | ⟨g7, rfl, g2⟩
      all_goals
        try (obtain rfl : A5 = none := by injection f1)
        try (obtain rfl : A7 = none := by injection f2)
        try clear f1
        try clear f2
        go_wp2
        go_roundw
        case rel => exact ⟨q + 1, by omega, by go_num, HR.out.1, HR.out.2⟩
        case measure => (simp [intOf] <;> omega)
    · have S4 := R.below
      have hqi : ¬ (q : Int) < 3 := by omega
      clear R hT
      go_wp2_with fail
      refine (HN.add _ _ _).mono ?_
      rintro e w5 ⟨rfl, hb5⟩
      have S5 := below_then S4 hb5
      clear S4 hb5
      go_wp2_with fail
      refine (HN.est _ _).mono ?_
      rintro e w6 ⟨rfl, hb6⟩
      have S6 := below_then S5 hb6
      clear S5 hb6
      go_wp2_with fail
      refine (HN.total _).mono ?_
      rintro e w7 ⟨rfl, hb7⟩
      have S7 := below_then S6 hb7
      clear S6 hb7
      go_wp2_with fail
      refine (HN.rows _).mono ?_
      rintro e w8 ⟨A8, c8, rfl, hb8⟩
      have S8 := below_then S7 hb8
      clear S7 hb8
      go_wp2_with fail
      refine (kawake_any HP _).mono ?_
      rintro e WI ⟨rfl, hbI⟩
      have hb := below_then S8 hbI
      clear S8 hbI
      go_wp2
      go_ret
      exact ⟨rfl, hb⟩
end Go.Proofs.Ytcckfdhajbbieaa
