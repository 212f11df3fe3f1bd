/- The statements about package pool: PoolNew. Conditions: the program's arena keeps its contracts (ProgA). -/
import Derived.Test.YtenchaifnfgijaaNawake
import Derived.Test.YtenchaifnfgijaaAprog
import Derived.Test.YtenchaifnfgijaaTlist
namespace Go.Proofs.Ytenchaifnfgijaa
open Go.ChangeShapes Go.WideShapes Go.ChangeAt Go.RowKit
set_option linter.unusedVariables false
set_option linter.unusedSimpArgs false
set_option maxRecDepth 100000

theorem MadeL.bd {L : List (Int × Int)} (h : MadeL L) : ∀ x ∈ L, I64 x.1 ∧ I64 x.2 := fun x hx => by have := h.sm x hx; simp only [I64]; omega
/-- Nothing elder has turned, and both arenas. -/
structure BothA (PA : Rep) (w0 : World) (col : Col) (W : World) (ga gb : Nat) (x y : ASt) : Prop where
  since : Since w0 col W
  pa : PA col 32 W ga x
  ra : RefA col 64 W gb y
section
variable {PA : Rep} {w0 W W' : World} {col col' : Col} {ga gb : Nat} {x y : ASt} {P : Nat → Prop}
theorem BothA.step (HP : ProgA PA) (h : BothA PA w0 col W ga gb x y) (s : StepC P col W col' W') (h1 : ∀ c, Rng 32 c → ¬ P c) (h2 : ∀ c, Rng 64 c → ¬ P c) (hz : ¬ P 0) : BothA PA w0 col' W' ga gb x y :=
  ⟨h.since.step s hz, HP.keep h.pa s h1 hz, h.ra.keep s h2 hz⟩
theorem BothA.below (HP : ProgA PA) (h : BothA PA w0 col W ga gb x y) (hb : Below W.heap.size W W') : BothA PA w0 col W' ga gb x y := h.step HP (P := fun _ => False) (StepC.below h.since.tidy hb) (fun _ _ h => h) (fun _ _ h => h) (fun h => h)
end
theorem rngs_no {a b : Nat} (h : a + 16 ≤ b ∨ b + 16 ≤ a) : ∀ c, Rng a c → ¬ Rng b c := fun c h1 h2 => by have := h1.1; have := h1.2; have := h2.1; have := h2.2; omega
theorem newE_big : newE 8193 = 1 := by decide
set_option maxHeartbeats 4000000 in
theorem poolNew_walk {PA : Rep} (HP : ProgA PA) (n : Int) (A : Option Addr) (m d : Nat) (w : World) (n0 : -9223372036854775808 ≤ n) (n1 : n ≤ 9223372036854775807) (hA : RdI w A m d) :
    Calls Try.prog 3 #[.int .i64 n, .slice A m d] w (Yes w) := by
  obtain ⟨X, hXm, hX⟩ := mask_any n 16383 (by omega)
  have hX' : bits .and .i64 n 16383 = (X : Int) := hX
  clear hX
  go_enter Try.func3, Try.ntmps3
  go_wp2_with fail
  refine (new_any _ _ _ _).mono ?_
  rintro e w1 ⟨rfl, rfl⟩
  have hD := Dk.new hA
  have hge := hD.ge
  have hlow := hD.low
  go_wp2_with fail
  refine (classes_dk hD).mono ?_
  rintro e W1 ⟨A1, m1, c1, L, rfl, hR, hnew, hM, _, hg⟩
  have hml := hR.len
  have hm4 := hM.n4
  have S1 : Since w (fun _ => 0) W1 := ⟨hlow.grown hg hlow.size (fun q e => by injection e with e; omega), fun _ _ => rfl, fun _ _ => rfl⟩
  have R1 : RdK0 kC (fun _ => 0) W1 A1 m1 c1 L := ⟨hR, fun _ _ _ _ _ => rfl⟩
  clear hD hA hge hlow hg hR hnew
  go_wp2_with fail
  refine (HP.new (k := 32) S1.tidy (by omega) R1.rd (by omega) hM.bd).mono ?_
  rintro e W2 (⟨_, ga, rfl, hd⟩ | ⟨h0, _⟩)
  rotate_left
  · exact absurd hM.ok h0
  obtain ⟨col2, p2, s2⟩ := hd
  have R2 := R1.keep s2 (rng0 (by omega))
  have S2 := S1.step s2 (rng0 (by omega))
  clear R1 S1 s2
  go_wp2_with fail
  refine (arNew (k := 64) S2.tidy (by omega) A1 m1 c1 L R2.rd (by omega) (fun x hx => by have := hM.bd x hx; simp only [I64] at this; exact ⟨this.1.1, this.1.2, this.2.1, this.2.2⟩)).mono ?_
  rintro e W3 (⟨_, gb, rfl, hd⟩ | ⟨h0, _⟩)
  rotate_left
  · exact absurd hM.ok h0
  obtain ⟨col3, p3, s3⟩ := hd
  have B3 : BothA PA w col3 W3 ga gb (newA L) (newA L) := ⟨S2.step s3 (rng0 (by omega)), HP.keep p2 s3 (rngs_no (by omega)) (rng0 (by omega)), p3⟩
  clear R2 S2 s3 p2 p3
  have hRI : RdG kI (W3.alloc (.cells #[.int .i64 n, .int .i64 (X : Int), .int .i64 8192, .int .i64 8193] 3)) (some ⟨W3.heap.size, 0, none⟩) 4 4 [n, (X : Int), 8192, 8193] := RdG.lit kI W3 [n, (X : Int), 8192, 8193] rfl (by simp [maxLen]) _
  have hRI0 : RdK0 kI col3 (W3.alloc (.cells #[.int .i64 n, .int .i64 (X : Int), .int .i64 8192, .int .i64 8193] 3)) (some ⟨W3.heap.size, 0, none⟩) 4 4 [n, (X : Int), 8192, 8193] := ⟨hRI, fun _ b o sp e => by injection e with e; injection e with e; subst e; exact B3.since.tidy _ (Nat.le_refl _)⟩
  have b3 : Below W3.heap.size W3 (W3.alloc (.cells #[.int .i64 n, .int .i64 (X : Int), .int .i64 8192, .int .i64 8193] 3)) := (Below.refl _ _).alloc (Nat.le_refl _) _
  have B4 := B3.below HP b3
  have hzs : ∀ z ∈ [n, (X : Int), 8192, 8193], I64 z := by
    intro z hz
    simp at hz
    simp only [I64]
    rcases hz with rfl | rfl | rfl | rfl <;> omega
  clear B3 hRI b3
  go_wp2
  generalize W3.heap.size = bI at *
  go_loopw [43] (fun i wr => ∃ (q : Nat) (col : Col), q ≤ 4 ∧ i = .int .i64 q ∧ BothA PA w col wr ga gb (newA L) (newA L) ∧ RdK0 kI col wr (some ⟨bI, 0, none⟩) 4 4 [n, (X : Int), 8192, 8193]) (fun i _ => 4 - (intOf i).toNat)
  case atStart => exact ⟨0, _, by omega, rfl, B4, hRI0⟩
  case round =>
    clear B4 hRI0
    obtain ⟨q, col, hq, rfl, BB, rowI⟩ := hrel
    by_cases hlt : q < 4
    · obtain ⟨b, o, z, e, _, hz, _, c0⟩ := rowI.rd.atI hlt
      injection e with e; injection e with e1 e2; subst e1 e2
      have hz64 := hzs z hz
      have hqi : (q : Int) < 4 := by omega
      rw [Nat.zero_add] at c0
      go_wp2_with fail
      refine (pqNew (k := 16) (ga := ga) BB.since.tidy (by omega) z hz64).mono ?_
      rintro e w5 (⟨hE, g, rfl, colp, _, sp⟩ | ⟨hE, rfl, hb5⟩)
      · have B5 := BB.step HP sp (rngs_no (by omega)) (rngs_no (by omega)) (rng0 (by omega))
        have I5 := rowI.keep sp (rng0 (by omega))
        clear BB rowI c0 sp
        go_wp2_with fail
        refine (rqNew (k := 48) (ga := gb) B5.since.tidy (by omega) z hz64).mono ?_
        rintro e w6 (⟨hF, g', rfl, colq, _, sq⟩ | ⟨hF, _⟩)
        rotate_left
        · omega
        have B6 := B5.step HP sq (rngs_no (by omega)) (rngs_no (by omega)) (rng0 (by omega))
        have I6 := I5.keep sq (rng0 (by omega))
        clear B5 I5 sq
        go_wp2
        go_roundw
        case rel => exact ⟨q + 1, _, by omega, by go_num, B6, I6⟩
        case measure => (simp [intOf] <;> omega)
      · have B5 := BB.below HP hb5
        have I5 := rowI.keep (P := fun _ => False) (StepC.below BB.since.tidy hb5) (fun h => h)
        clear BB rowI c0 hb5
        go_wp2_with fail
        refine (rqNew (k := 48) (ga := gb) B5.since.tidy (by omega) z hz64).mono ?_
        rintro e w6 (⟨hF, _⟩ | ⟨_, rfl, hb6⟩)
        · omega
        have B6 := B5.below HP hb6
        have I6 := I5.keep (P := fun _ => False) (StepC.below B5.since.tidy hb6) (fun h => h)
        clear B5 I5 hb6
        go_wp2
        go_roundw
        case rel => exact ⟨q + 1, _, by omega, by go_num, B6, I6⟩
        case measure => (simp [intOf] <;> omega)
    · have S4 := BB.since
      clear BB rowI hzs
      go_wp2_with fail
      refine (nilNewP _ _).mono ?_
      rintro e w5 ⟨rfl, rfl⟩
      go_wp2_with fail
      refine (nilIntern _ _).mono ?_
      rintro e w5 ⟨rfl, rfl⟩
      go_wp2_with fail
      refine (nilText _ _).mono ?_
      rintro e w5 ⟨rfl, rfl⟩
      go_wp2_with fail
      refine (nilFind _ _).mono ?_
      rintro e w5 ⟨rfl, rfl⟩
      go_wp2_with fail
      refine (nilRelease _ _).mono ?_
      rintro e w5 ⟨rfl, rfl⟩
      go_wp2_with fail
      refine (nilLen _).mono ?_
      rintro e w5 ⟨rfl, rfl⟩
      go_wp2_with fail
      refine (qawake_any HP _).mono ?_
      rintro e WI ⟨rfl, hbI⟩
      have SI := S4.below' hbI
      have hb := SI.below
      clear S4 SI hbI
      go_wp2
      go_ret
      exact ⟨rfl, hb⟩
end Go.Proofs.Ytenchaifnfgijaa
