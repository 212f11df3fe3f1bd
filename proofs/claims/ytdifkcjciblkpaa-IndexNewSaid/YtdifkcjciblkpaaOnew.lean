/- The statements about package index: IndexNew. Conditions: the program's tables keep their contracts (ProgMk, ProgMs). -/
import Derived.Test.YtdifkcjciblkpaaOsteps
namespace Go.Proofs.Ytdifkcjciblkpaa
open Go.ChangeShapes Go.WideShapes Go.ChangeAt Go.RowKit
set_option linter.unusedVariables false
set_option linter.unusedSimpArgs false
set_option maxRecDepth 100000

/-- What stands in a round of IndexNew. -/
structure NewR (w : World) (col : Col) (W : World) (B : Option Addr) (p c : Nat) (T : List Int) (bt ct : Nat) (T' : List Int) (bI : Nat) (l : List Int) : Prop where
  since : Since w col W
  r1 : RdU0 col W B p c T
  r2 : RdU0 col W (some ⟨bt, 0, none⟩) 16 ct T'
  row : RdK0 kI col W (some ⟨bI, 0, none⟩) 3 3 l
section
variable {w W W' : World} {col col' : Col} {B : Option Addr} {p c bt ct bI : Nat} {T T' l : List Int} {P : Nat → Prop}
theorem NewR.step (h : NewR w col W B p c T bt ct T' bI l) (s : StepC P col W col' W') (hz : ¬ P 0) : NewR w col' W' B p c T bt ct T' bI l :=
  ⟨h.since.step s hz, h.r1.keep s hz, h.r2.keep s hz, h.row.keep s hz⟩
theorem NewR.below (h : NewR w col W B p c T bt ct T' bI l) (hb : Below W.heap.size W W') : NewR w col W' B p c T bt ct T' bI l := h.step (P := fun _ => False) (StepC.below h.since.tidy hb) (fun h => h)
end
set_option maxHeartbeats 8000000 in
theorem indexNew_walk {PM : RepM Int} {PS : RepM ByteArray} (HK : ProgMk PM) (HS : ProgMs PS) (n : Int) (B : Option Addr) (p c : Nat) (A : Option Addr) (m d : Nat) (w : World) (n0 : -9223372036854775808 ≤ n) (n1 : n ≤ 9223372036854775807) (hB : ArgU w B p c) (hA : RdI w A m d) :
    Calls Try.prog 3 #[.int .i64 n, .slice B p c, .slice A m d] w (Yes w) := by
  have HP := HK.all
  obtain ⟨T, hT⟩ := hB
  have hcapB := hT.cap
  have hmaxB := hT.max
  by_cases hbig : 40 < p
  · have hbi : (40 : Int) < (p : Int) := by omega
    go_enter Try.func3, Try.ntmps3
    go_wp2_with fail
    refine (oawake_any HP _).mono ?_
    rintro e WI ⟨rfl, hbI⟩
    go_wp2
    go_ret
    exact ⟨rfl, hbI⟩
  have hbi : ¬ (40 : Int) < (p : Int) := by omega
  obtain ⟨X, hXm, hX⟩ := mask_any n 255 (by omega)
  have hX' : bits .and .i64 n 255 = (X : Int) := hX
  clear hX
  go_enter Try.func3, Try.ntmps3
  go_wp2_with fail
  refine (new_any _ _ _ _).mono ?_
  rintro e w1 ⟨rfl, rfl⟩
  have D1 := DkS.new hA
  have b1 : Below w.heap.size w (w.alloc (.cells #[.slice A m d, .int .i64 0] 57)) := (Below.refl _ _).alloc (Nat.le_refl _) _
  have T1 : RdU0 (dye (fun _ => 0) (some w.heap.size) 1) (w.alloc (.cells #[.slice A m d, .int .i64 0] 57)) B p c T := by
    have T0 : RdU0 (fun _ => 0) w B p c T := ⟨hT, fun _ _ _ _ _ => rfl⟩
    exact T0.keep (P := fun _ => False) (StepC.new (fun _ _ => rfl) _ 1 _) (fun h => h)
  generalize w.alloc (.cells #[.slice A m d, .int .i64 0] 57) = W1 at *
  generalize dye (fun _ => 0) (some w.heap.size) 1 = col1 at *
  generalize w.heap.size = gd at *
  clear hA b1 hT
  go_wp2_with fail
  refine (table_dk D1.dk).mono ?_
  rintro e W3 ⟨bt, ct, T', rfl, hT, hbt, h3, g3⟩
  obtain ⟨D3, s3⟩ := D1.deck h3 g3
  have R3 : RdU0 _ W3 (some ⟨bt, 0, none⟩) 16 ct T' := ⟨hT, fun _ b o sp e => by injection e with e; injection e with e; subst e; exact D1.tidy _ hbt⟩
  have T3 := T1.keep s3 (by omega)
  have S3 := D3.since
  have hRI : RdG kI (W3.alloc (.cells #[.int .i64 n, .int .i64 (X : Int), .int .i64 8193] 3)) (some ⟨W3.heap.size, 0, none⟩) 3 3 [n, (X : Int), 8193] := by
    refine ⟨rfl, Nat.le_refl _, by simp [maxLen], fun j a ha => ⟨_, _, rfl, fun i u hu => ?_⟩⟩
    rw [World.cell?_alloc_at _ _ _ _ rfl]
    have hi : i < 1 := (List.getElem?_eq_some_iff.1 hu).1
    obtain rfl : i = 0 := by omega
    have hu' : u = .int .i64 a := by injection hu with hu; exact hu.symm
    subst hu'
    match j, ha with
    | 0, ha => simp at ha; subst ha; rfl
    | 1, ha => simp at ha; subst ha; rfl
    | 2, ha => simp at ha; subst ha; rfl
    | j + 3, ha => simp at ha
  have b4 : Below W3.heap.size W3 (W3.alloc (.cells #[.int .i64 n, .int .i64 (X : Int), .int .i64 8193] 3)) := (Below.refl _ _).alloc (Nat.le_refl _) _
  have N4 : NewR w _ (W3.alloc (.cells #[.int .i64 n, .int .i64 (X : Int), .int .i64 8193] 3)) B p c T bt ct T' W3.heap.size [n, (X : Int), 8193] :=
    ⟨S3.below2 b4, T3.below S3.tidy b4, R3.below S3.tidy b4, hRI, fun _ b o sp e => by injection e with e; injection e with e; subst e; exact S3.tidy _ (Nat.le_refl _)⟩
  have hzs : ∀ z ∈ [n, (X : Int), 8193], -9223372036854775808 ≤ z ∧ z ≤ 9223372036854775807 := by
    intro z hz
    simp at hz
    rcases hz with rfl | rfl | rfl <;> omega
  clear D1 D3 h3 g3 hT hbt R3 T1 T3 S3 s3 hRI b4
  go_wp2
  generalize W3.heap.size = bI at *
  generalize ([n, (X : Int), 8193] : List Int) = l3 at *
  go_loopw [35] (fun i wr => ∃ (q : Nat) (col : Col), q ≤ 3 ∧ i = .int .i64 q ∧ NewR w col wr B p c T bt ct T' bI l3) (fun i _ => 3 - (intOf i).toNat)
  case atStart => exact ⟨0, _, by omega, rfl, N4⟩
  case round =>
    clear N4
    obtain ⟨q, col, hq, rfl, R⟩ := hrel
    by_cases hlt : q < 3
    · obtain ⟨b, o, z, e, hz, hzm, _, c0⟩ := R.row.rd.at_ hlt
      injection e with e; injection e with e1 e2; subst e1 e2
      have hz64 := hzs z hzm
      have c1 : wr.cell? ⟨bI, q, none⟩ = some (.int .i64 z) := by have := c0 0 (.int .i64 z) rfl; simpa [kI] using this
      have hqi : (q : Int) < 3 := by omega
      clear c0 hz hzm
      go_wp2_with fail
      refine (HP.new (k := 16) R.since.tidy (by omega) R.r1 z 1 hz64 (by omega)).mono ?_
      rintro e w5 (⟨hE, g, rfl, colp, _, sp⟩ | ⟨hE, rfl, hb5⟩)
      all_goals
        first
          | (have R5 := R.step sp (rng0 (by omega))
             clear sp)
          | (have R5 := R.below hb5
             have hv : (mapE z p != 0) = true := bne_iff_ne.2 hE
             clear hb5)
        clear R c1
        go_wp2_with fail
        refine (rmNew (k := 32) R5.since.tidy (by omega) z hz64 B p c (by omega)).mono ?_
        rintro e w6 (⟨hF, g', rfl, colq, _, sq⟩ | ⟨hF, rfl, hb6⟩)
      rotate_left
      · exact absurd hE hF
      · exact absurd hF hE
      all_goals
        first
          | (have R6 := R5.step sq (rng0 (by omega))
             clear sq)
          | (have R6 := R5.below hb6
             clear hb6)
        clear R5
        go_wp2_with fail
        refine (HS.new (k := 48) R6.since.tidy (by omega) R6.r2 z 1 hz64 (by omega)).mono ?_
        rintro e w7 (⟨hE', g7, rfl, colp7, _, sp7⟩ | ⟨hE', rfl, hb7⟩)
      all_goals
        first
          | (have R7 := R6.step sp7 (rng0 (by omega))
             clear sp7)
          | (have R7 := R6.below hb7
             have hv' : (mapE z 16 != 0) = true := bne_iff_ne.2 hE'
             clear hb7)
        clear R6
        go_wp2_with fail
        refine (rmNew (k := 64) R7.since.tidy (by omega) z hz64 (some ⟨bt, 0, none⟩) 16 ct (by omega)).mono ?_
        rintro e w8 (⟨hF', g8, rfl, colq8, _, sq8⟩ | ⟨hF', rfl, hb8⟩)
        all_goals
          first
            | exact absurd hE' hF'
            | exact absurd hF' hE'
            | (have R8 := R7.step sq8 (rng0 (by omega))
               clear sq8)
            | (have R8 := R7.below hb8
               clear hb8)
        clear R7
        go_wp2
        go_roundw
        case rel => exact ⟨q + 1, _, by omega, by go_num, R8⟩
        case measure => (simp [intOf] <;> omega)
    · have S4 := R.since
      have hqi : ¬ (q : Int) < 3 := by omega
      clear R hzs
      go_wp2_with fail
      refine (HK.noneGet _ _).mono ?_
      rintro e w5 ⟨rfl, hb5⟩
      have S5 := S4.below2 hb5
      clear S4 hb5
      go_wp2_with fail
      refine (HK.noneDel _ _).mono ?_
      rintro e w6 ⟨rfl, hb6⟩
      have S6 := S5.below2 hb6
      clear S5 hb6
      go_wp2_with fail
      refine (HK.nonePut _ _ _).mono ?_
      rintro e w7 ⟨rfl, hb7⟩
      have S7 := S6.below2 hb7
      clear S6 hb7
      go_wp2_with fail
      refine (HK.noneLen _).mono ?_
      rintro e w8 ⟨rfl, hb8⟩
      have S8 := S7.below2 hb8
      clear S7 hb8
      go_wp2_with fail
      refine (HK.noneKeys _).mono ?_
      rintro e w9 ⟨A9, c9, rfl, hb9⟩
      have S9 := S8.below2 hb9
      clear S8 hb9
      go_wp2_with fail
      refine (oawake_any HP _).mono ?_
      rintro e WI ⟨rfl, hbI⟩
      have hb := (S9.below2 hbI).below
      clear S9 hbI
      go_wp2
      go_ret
      exact ⟨rfl, hb⟩
end Go.Proofs.Ytdifkcjciblkpaa
