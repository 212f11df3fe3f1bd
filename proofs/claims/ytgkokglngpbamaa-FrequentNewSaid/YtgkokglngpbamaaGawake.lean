/- The statements about package frequent: awake, weight. Conditions: the program's tables keep their contracts (ProgF). -/
import Derived.Test.YtgkokglngpbamaaZ10
import Derived.Test.YtgkokglngpbamaaZ11
import Derived.Test.YtgkokglngpbamaaZ06
namespace Go.Proofs.Ytgkokglngpbamaa
open Go.ChangeShapes Go.WideShapes Go.ChangeAt Go.RowKit
set_option linter.unusedVariables false
set_option linter.unusedSimpArgs false
set_option maxRecDepth 100000

/-- The chapter's example. -/
def fx1 : TSt := ⟨2, [(⟨#[97]⟩, 5, 0)], 0, 5⟩
def fx2 : TSt := ⟨2, [(⟨#[97]⟩, 5, 0), (⟨#[98]⟩, 3, 0)], 0, 8⟩
def fx3 : TSt := ⟨2, [(⟨#[97]⟩, 4, 0), (⟨#[98]⟩, 2, 0)], 1, 9⟩
def fx4 : TSt := ⟨2, [(⟨#[97]⟩, 2, 0), (⟨#[99]⟩, 4, 0)], 3, 15⟩
def fxE : List En := [(⟨#[97]⟩, 2, 3), (⟨#[99]⟩, 4, 3)]
theorem ex_f1 : (newT 2).addF ⟨#[97]⟩ 5 = (0, fx1) := by kernel_rfl
theorem ex_f2 : fx1.addF ⟨#[98]⟩ 3 = (0, fx2) := by kernel_rfl
theorem ex_f3 : fx2.addF ⟨#[99]⟩ 1 = (0, fx3) := by kernel_rfl
theorem ex_f4 : fx3.getF ⟨#[99]⟩ = (zeroE, false) := by kernel_rfl
theorem ex_f5 : fx3.addF ⟨#[99]⟩ 6 = (0, fx4) := by kernel_rfl
theorem ex_f6 : sortE (fx4.l.map fx4.tellF) = fxE ∧ fx4.base = 3 := ⟨by kernel_rfl, rfl⟩
theorem fsz1 (a : UInt8) : Sz ⟨#[a]⟩ := by unfold Sz; exact Nat.le_of_lt_succ (by simp [ByteArray.size])
/-- A literal of two entries. -/
theorem RdG.lit2 {W : World} {h : Nat} (e : h = W.heap.size) (a b : En) : RdG kEn (W.alloc (.cells #[.string a.1, .int .u64 a.2.1, .int .u64 a.2.2, .string b.1, .int .u64 b.2.1, .int .u64 b.2.2] 32)) (some ⟨h, 0, none⟩) 2 2 [a, b] := by
  subst e
  refine ⟨rfl, Nat.le_refl _, by simp [maxLen], fun j x hx => ⟨_, _, rfl, fun i u hu => ?_⟩⟩
  rw [World.cell?_alloc_at _ _ _ _ rfl]
  have hi : i < 3 := by
    have h := (List.getElem?_eq_some_iff.1 hu).1
    rw [kEn.len] at h
    exact h
  match j, hx with
  | 0, hx =>
    simp at hx; subst hx
    match i, hi, hu with
    | 0, _, hu => exact hu
    | 1, _, hu => exact hu
    | 2, _, hu => exact hu
  | 1, hx =>
    simp at hx; subst hx
    match i, hi, hu with
    | 0, _, hu => exact hu
    | 1, _, hu => exact hu
    | 2, _, hu => exact hu
  | j + 2, hx => simp at hx
set_option maxHeartbeats 4000000 in
theorem fawake_any {PT : RepF} (HP : ProgF PT) (w : World) : Calls Try.prog 18 #[] w fun e w' => e = .returned (.bool true) ∧ Below w.heap.size w w' := by
  have hS0 := Since.start w
  have hN := HP.new (k := 16) hS0.tidy (by omega) 2 (by simp [J64])
  go_enter Try.func18, Try.ntmps18
  go_wp2_with fail
  refine hN.mono ?_
  rintro e w2 (⟨_, g, rfl, col2, p2, s2⟩ | ⟨h0, _⟩)
  rotate_left
  · exact absurd h0 (show ¬ svE 2 = 1 by decide)
  have A2 : AtF PT w col2 w2 16 g (newT 2) := ⟨hS0.step s2 (rng0 (by omega)), p2⟩
  clear hS0 s2 p2 hN
  have hC := HP.add A2.pt A2.tidy ⟨#[97]⟩ 5 (fsz1 _) (by simp [W64])
  rw [ex_f1] at hC
  go_wp2_with fail
  refine hC.mono ?_
  rintro e w3 ⟨rfl, hd⟩
  obtain ⟨col3, A3⟩ := A2.did (by omega) hd
  clear A2 hd hC
  have hC := HP.add A3.pt A3.tidy ⟨#[98]⟩ 3 (fsz1 _) (by simp [W64])
  rw [ex_f2] at hC
  go_wp2_with fail
  refine hC.mono ?_
  rintro e w4 ⟨rfl, hd⟩
  obtain ⟨col4, A4⟩ := A3.did (by omega) hd
  clear A3 hd hC
  have hC := HP.add A4.pt A4.tidy ⟨#[99]⟩ 1 (fsz1 _) (by simp [W64])
  rw [ex_f3] at hC
  go_wp2_with fail
  refine hC.mono ?_
  rintro e w5 ⟨rfl, hd⟩
  obtain ⟨col5, A5⟩ := A4.did (by omega) hd
  clear A4 hd hC
  have hC := HP.get A5.pt A5.tidy ⟨#[99]⟩ (fsz1 _)
  rw [ex_f4] at hC
  go_wp2_with fail
  refine hC.mono ?_
  rintro e w6 ⟨rfl, b6⟩
  have b7 : Below w5.heap.size w5 (w6.alloc (.cells (VE zeroE) 32)) := b6.alloc b6.size _
  have A7 := A5.below HP b7
  have hC := HP.add A7.pt A7.tidy ⟨#[99]⟩ 6 (fsz1 _) (by simp [W64])
  rw [ex_f5] at hC
  clear A5 b6 b7
  go_wp2_with fail
  refine hC.mono ?_
  rintro e w8 ⟨rfl, hd⟩
  obtain ⟨col8, A8⟩ := A7.did (by omega) hd
  clear A7 hd hC
  have hU := HP.untr A8.pt A8.tidy
  rw [ex_f6.2] at hU
  go_wp2_with fail
  refine hU.mono ?_
  rintro e w9 ⟨rfl, b9⟩
  have A9 := A8.below HP b9
  have hE := HP.entries A9.pt A9.tidy
  rw [ex_f6.1] at hE
  clear A8 hU b9
  go_wp2_with fail
  refine hE.mono ?_
  rintro e w10 ⟨A, n, c, hl, rfl, hR, _, b10⟩
  obtain rfl : n = 2 := hl.symm
  have A10 := A9.below HP b10
  have b11 : Below w10.heap.size w10 (w10.alloc (.cells #[.string ⟨#[97]⟩, .int .u64 2, .int .u64 3, .string ⟨#[99]⟩, .int .u64 4, .int .u64 3] 32)) := (Below.refl _ _).alloc (Nat.le_refl _) _
  have R2 : RdG kEn (w10.alloc (.cells #[.string ⟨#[97]⟩, .int .u64 2, .int .u64 3, .string ⟨#[99]⟩, .int .u64 4, .int .u64 3] 32)) (some ⟨w10.heap.size, 0, none⟩) 2 2 fxE := RdG.lit2 rfl (⟨#[97]⟩, 2, 3) (⟨#[99]⟩, 4, 3)
  have hQ := sameEntries_yes A (some ⟨w10.heap.size, 0, none⟩) 2 c 2 fxE _ (hR.below b11) R2
  have A11 := A10.below HP b11
  have HA := Lib.hid A11
  clear A9 A10 hE hR b10 b11 R2 A11
  go_wp2_with fail
  refine hQ.mono ?_
  rintro e w12 ⟨rfl, b12⟩
  have hb := (HA.out.below HP b12).since.below
  clear hQ b12 HA
  go_wp2
  go_ret
  exact ⟨rfl, hb⟩
/-- A weight that the statement draws: the same at every call. -/
theorem fweigh_any (s raw : Int) (hs : J64 s) (hr : W64 raw) : ∃ x : Int, W64 x ∧ ∀ w : World, Calls Try.prog 21 #[.int .i64 s, .int .u64 raw] w fun e w' => e = .returned (.int .u64 x) ∧ w' = w := by
  obtain ⟨hs0, hs1⟩ := hs
  obtain ⟨X, hXm, hX⟩ := mask_any (s / 1024) 15 (by omega)
  have hX' : bits .and .i64 (s / 1024) 15 = (X : Int) := hX
  obtain ⟨Y, hYm, hY⟩ := mask_any (s / 1024) 7 (by omega)
  have hY' : bits .and .i64 (s / 1024) 7 = (Y : Int) := hY
  obtain ⟨Z, hZ⟩ : ∃ Z : Nat, 1 + Y = Z := ⟨_, rfl⟩
  have hw1 : IntKind.i64.wrap (1 + (Y : Int)) = (Z : Int) := by rw [IntKind.wrap_i64]; omega
  have hYw : IntKind.u64.wrap (Z : Int) = (Z : Int) := IntWalk.u64_in _ ⟨by omega, by omega⟩
  have hUY := Lib.hid (show W64 (Z : Int) by unfold W64; omega)
  clear hX hY hZ
  by_cases h0 : X = 0
  · refine ⟨raw, hr, fun w => ?_⟩
    have e0 : ((X : Int) == 0) = true := beq_iff_eq.2 (by omega)
    subst h0
    go_enter Try.func21, Try.ntmps21
    go_wp2
    go_ret
    exact ⟨rfl, rfl⟩
  · refine ⟨(Z : Int), hUY.out, fun w => ?_⟩
    have e0 : ((X : Int) == 0) = false := beq_false_of_ne (by omega)
    clear hr hUY
    go_enter Try.func21, Try.ntmps21
    go_wp2
    go_ret
    exact ⟨rfl, rfl⟩
end Go.Proofs.Ytgkokglngpbamaa
