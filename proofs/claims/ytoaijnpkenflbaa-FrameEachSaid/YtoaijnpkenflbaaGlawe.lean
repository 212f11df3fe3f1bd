/- heavykeyslaw05.FrameEach returns true, whatever the input. Conditions: none beyond those typed. -/
import Derived.Test.YtoaijnpkenflbaaGlawl
namespace Go.Proofs.Ytoaijnpkenflbaa
open Go.ChangeShapes Go.WideShapes Go.ChangeAt Go.RowKit
set_option linter.unusedVariables false
set_option linter.unusedSimpArgs false
set_option maxRecDepth 100000

/-- With no limit an input is the item of its event, and the verdict on it. -/
theorem inp_item {l : List Tg} {t x : Int} : ∃ s p q, itV l t x = .agg #[.string s, .int .i64 p, .int .u64 q] ∧ inpE 255 (l, t, x) = (s, p, q, verd (itE l t x)) := by
  have hk := keyBy_le l
  by_cases h : itE l t x = 0
  · refine ⟨_, _, _, if_pos h, ?_⟩
    show inp 255 l t x = _
    rw [inp_ok h (by omega), h]; rfl
  · refine ⟨_, _, _, if_neg h, ?_⟩
    show inp 255 l t x = _
    rw [inp_bad h]
set_option maxHeartbeats 1000000 in
theorem frameEach_walk (B : Option Addr) (m d : Nat) (w : World) (hB : RdI w B m d) :
    Calls Try.prog 5 #[.slice B m d] w (Yes w) := by
  go_enter Try.func5, Try.ntmps5
  go_wp2_with fail
  refine (new_any _ _ _ _).mono ?_
  rintro e w1 ⟨rfl, rfl⟩
  go_wp2_with fail
  refine (events_any 50 10 (Dk.new hB) (by omega) (by omega)).mono ?_
  rintro e w2 ⟨A2, n2, c2, L, rfl, hE2, hn1, hn2, hF, hD2, -⟩
  have hB2 := hD2.low
  have hLl := hE2.len
  have hbE := bdE_fit hF (by omega) (by omega)
  have hbO := bdO_ok hbE
  have hW := Lib.hid (fit_wts hF)
  have hI := ins_each (most := 255) (L := L) (by omega) (by omega) (sound_fit hF)
  clear hD2 hF
  go_wp2_with fail
  refine (body_any _ _ _ L _ hE2 hW.out).mono ?_
  rintro e w3 ⟨A3, n3, c3, rfl, hr3, hb3⟩
  rw [hbO.1] at hr3
  rw [hbE]
  have hB3 := below_then hB2 hb3
  have hE3 := hE2.below hb3
  clear hB2 hE2 hb3
  go_wp2_with fail
  refine (read_frame_any _ _ _ _ 255 _ hr3 (by omega) (by omega)).mono ?_
  rw [hI]
  rintro e w4 ⟨v4, rfl, hO4, hb4⟩
  obtain ⟨A4, c4, rfl, hr4⟩ := hO4.form (n := n2) (by rw [List.length_map, hLl])
  have hB4 := below_then hB3 hb4
  have hE4 := hE3.below hb4
  have HL := Lib.hid hLl
  have hmx := hr4.max
  have hcp := hr4.cap
  have hmx2 := hE4.max
  have hcp2 := hE4.cap
  have hnn : ((n2 : Int) != (n2 : Int)) = false := by simp
  clear hr3 hE3 hb4 hB3 hbE hbO hI hO4 hLl hW
  go_wp2
  go_loopw [30] (fun i W => ∃ k : Nat, k ≤ n2 ∧ Below w4.heap.size w4 W ∧ i = .int .i64 k) (fun i _ => n2 - (intOf i).toNat)
  case atStart => exact ⟨0, by omega, Below.refl _ _, rfl⟩
  case round =>
    obtain ⟨k, hk, hb, rfl⟩ := hrel
    by_cases hlt : k < n2
    · obtain ⟨b, o, A5, n5, c5, l, t, x, rfl, hg, hbl, y0, y1, y2, hT, hn5⟩ := (hE4.below hb).at_ hlt
      obtain ⟨b', o', s', t', x', v', rfl, hg', hbl', z0, z1, z2, z3⟩ := (hr4.below hb).at_ hlt
      obtain ⟨s, p, q, hv, hi⟩ := @inp_item l t x
      rw [List.getElem?_map, hg] at hg'
      have hg'' : inpE 255 (l, t, x) = (s', t', x', v') := Option.some.inj hg'
      rw [hi] at hg''
      obtain ⟨rfl, rfl, rfl, hvv⟩ : s = s' ∧ p = t' ∧ q = x' ∧ verd (itE l t x) = v' := by simpa using hg''
      subst hvv
      have HV := Lib.hid hv
      clear hg hg' hg'' hi hv
      have hX := EBox.new wr A5 n5 c5 t x
      have e0 := hX.c0
      have e1 := hX.c1
      have e2 := hX.c2
      have hb5 := hb.alloc hb.size (.cells #[.slice A5 n5 c5, .int .i64 t, .int .u64 x] 30)
      go_wp2_with fail
      refine (item_any _ _ _ l _ _ _ (hT.alloc _) hn5).mono ?_
      rintro e w6 ⟨rfl, hb6⟩
      rw [HV.out]
      have hb7 := below_then hb5 hb6
      have hkk : ∀ (a : Addr) (v : Value), wr.cell? a = some v → (w6.alloc (.cells #[.string s, .int .i64 p, .int .u64 q] 47)).cell? a = some v := fun a v hc => by
        have hbw := World.block_lt_of_cell? _ a hc
        have h1 := (((Below.refl wr.heap.size wr).alloc (Nat.le_refl _) (.cells #[.slice A5 n5 c5, .int .i64 t, .int .u64 x] 30)).trans (hb6.mono (by simp)))
        exact ((h1.alloc h1.size (.cells #[.string s, .int .i64 p, .int .u64 q] 47)).cell hbw).trans hc
      have hb8 := hb7.alloc hb7.size (.cells #[.string s, .int .i64 p, .int .u64 q] 47)
      have hJ := IBox.new w6 s p q
      have g0 := hkk _ _ z0
      have g1 := hkk _ _ z1
      have g2 := hkk _ _ z2
      have g3 := hkk _ _ z3
      have j0 := hJ.c0
      have j1 := hJ.c1
      have j2 := hJ.c2
      have hQ := eqIn_item s p q
      have HZ := Lib.hid (rfl : verd (itE l t x) = verd (itE l t x))
      have hb6' : w6.heap.size < (w6.alloc (.cells #[.string s, .int .i64 p, .int .u64 q] 47)).heap.size := by simp
      have hbl6 := World.block_lt_of_cell? _ _ g0
      have hvn : (verd (itE l t x) != verd (itE l t x)) = false := by simp
      clear HV hb5 hb7 hJ hkk y0 y1 y2 z0 z1 z2 z3 e0 e1 e2 hX hT hbl hbl' hb6
      go_wp2
      generalize hg6 : w6.heap.size = g6 at *
      generalize w6.alloc (.cells #[.string s, .int .i64 p, .int .u64 q] 47) = w7 at *
      generalize itE l t x = ze at *
      have hS : w7.drew.cell? ⟨b', o' + k * 4, none⟩ = some (.string s) ∧ w7.drew.cell? ⟨b', o' + k * 4 + 1, none⟩ = some (.int .i64 p) ∧ w7.drew.cell? ⟨b', o' + k * 4 + 2, none⟩ = some (.int .u64 q) ∧ w7.drew.cell? ⟨b', o' + k * 4 + 3, none⟩ = some (.int .i64 (verd ze)) ∧ w7.drew.cell? ⟨g6, 0, none⟩ = some (.string s) ∧ w7.drew.cell? ⟨g6, 1, none⟩ = some (.int .i64 p) ∧ w7.drew.cell? ⟨g6, 2, none⟩ = some (.int .u64 q) := ⟨g0, g1, g2, g3, j0, j1, j2⟩
      have hb9 : Below w4.heap.size w4 w7.drew := hb8.drew
      clear hg6 HZ hb8 hb6'
      go_region_held3 (fun W => W.cell? ⟨b', o' + k * 4, none⟩ = some (.string s) ∧ W.cell? ⟨b', o' + k * 4 + 1, none⟩ = some (.int .i64 p) ∧ W.cell? ⟨b', o' + k * 4 + 2, none⟩ = some (.int .u64 q) ∧ W.cell? ⟨b', o' + k * 4 + 3, none⟩ = some (.int .i64 (verd ze)) ∧ W.cell? ⟨g6, 0, none⟩ = some (.string s) ∧ W.cell? ⟨g6, 1, none⟩ = some (.int .i64 p) ∧ W.cell? ⟨g6, 2, none⟩ = some (.int .u64 q)) (first | exact hS | assumption) (first | (go_at_call 20; refine (verdict_any _ _).mono ?_; rintro e w8 ⟨rfl, rfl⟩))
      all_goals
        go_wp2
        refine ⟨⟨k + 1, by omega, hb9, by go_num⟩, ?_⟩
        (simp [intOf] <;> omega)
    · go_wp2_with fail
      refine (awake_any _).mono ?_
      rintro e w6 ⟨rfl, hb6⟩
      have hb7 := below_then (below_then hB4 hb) hb6
      go_wp2
      go_ret
      exact ⟨rfl, hb7⟩
end Go.Proofs.Ytoaijnpkenflbaa
