/- heavykeyslaw05.FrameRead returns true, whatever the input. Conditions: none beyond those typed. -/
import Derived.Test.YtoaijnpkenflbaaGlawl
import Derived.Test.YtoaijnpkenflbaaFrread
namespace Go.Proofs.Ytoaijnpkenflbaa
open Go.ChangeShapes Go.WideShapes Go.ChangeAt Go.RowKit
set_option linter.unusedVariables false
set_option linter.unusedSimpArgs false
set_option maxRecDepth 100000

/-- Block g holds N numbers. -/
def Nums (W : World) (g N : Nat) : Prop := ∀ k, k < N → ∃ z, W.cell? ⟨g, k, none⟩ = some (.int .i64 z) ∧ -9223372036854775808 ≤ z ∧ z ≤ 9223372036854775807
theorem Nums.below {W W' : World} {g N : Nat} (h : Nums W g N) (hb : Below W.heap.size W W') : Nums W' g N := by
  intro k hk
  obtain ⟨z, h0, h1⟩ := h k hk
  exact ⟨z, (hb.cell (World.block_lt_of_cell? _ _ h0)).trans h0, h1⟩
theorem Nums.three {W : World} {z0 z1 z2 : Int} {t : TypeId} (h0 : -9223372036854775808 ≤ z0 ∧ z0 ≤ 9223372036854775807) (h1 : -9223372036854775808 ≤ z1 ∧ z1 ≤ 9223372036854775807) (h2 : -9223372036854775808 ≤ z2 ∧ z2 ≤ 9223372036854775807) :
    Nums (W.alloc (.cells #[.int .i64 z0, .int .i64 z1, .int .i64 z2] t)) W.heap.size 3 := by
  intro k hk
  match k, hk with
  | 0, _ => exact ⟨z0, by rw [World.cell?_alloc_at _ _ _ _ rfl]; rfl, h0⟩
  | 1, _ => exact ⟨z1, by rw [World.cell?_alloc_at _ _ _ _ rfl]; rfl, h1⟩
  | 2, _ => exact ⟨z2, by rw [World.cell?_alloc_at _ _ _ _ rfl]; rfl, h2⟩

set_option maxHeartbeats 2000000 in
theorem frameRead_walk (A : Option Addr) (k c : Nat) (B : Option Addr) (m d : Nat) (at_ by_ most : Int) (w : World) (hA : Arg w A k c) (hB : RdI w B m d) (h1 : -9223372036854775808 ≤ at_) (h2 : at_ ≤ 9223372036854775807) (h3 : 0 ≤ by_) (h4 : by_ ≤ 255)
    (h5 : -9223372036854775808 ≤ most) (h6 : most ≤ 9223372036854775807) :
    Calls Try.prog 4 #[.slice A k c, .slice B m d, .int .i64 at_, .int .u8 by_, .int .i64 most] w (Yes w) := by
  obtain ⟨hk1, hk2, la, hRa⟩ := hA
  by_cases h300 : 300 < k
  · go_enter Try.func4, Try.ntmps4
    go_wp2_with fail
    refine (awake_any _).mono ?_
    rintro e w2 ⟨rfl, hb2⟩
    go_wp2
    go_ret
    exact ⟨rfl, hb2⟩
  have hk3 : k ≤ 300 := by omega
  clear h300
  go_enter Try.func4, Try.ntmps4
  go_wp2_with fail
  refine (new_any _ _ _ _).mono ?_
  rintro e w1 ⟨rfl, rfl⟩
  go_wp2_with fail
  refine (events_any 50 6 (Dk.new hB) (by omega) (by omega)).mono ?_
  rintro e w2 ⟨A2, n2, c2, L, rfl, hE2, hn1, hn2, hF, hD2, -⟩
  have hB2 := hD2.low
  have hLl := hE2.len
  have hbE := bdE_fit hF (by omega) (by omega)
  have hbO := bdO_ok hbE
  have hW := Lib.hid (fit_wts hF)
  have htwo := bdB_two (L := L) (by omega)
  clear hD2 hF
  go_wp2_with fail
  refine (rbody_any _ _ _ L _ hE2 hW.out).mono ?_
  rintro e w3 ⟨A3, nb, cb, rfl, hr3, hb3⟩
  rw [hbO.1] at hr3
  rw [hbE]
  have hB3 := below_then hB2 hb3
  have hlb0 := hr3.len
  have hnb0 : 0 < nb := by omega
  have hnb9 : nb ≤ 4096 := by omega
  clear hbE hbO htwo hE2 hB2 hb3 hLl hn1 hn2
  generalize bdB L = lb at *
  obtain ⟨bb, ob, rfl⟩ := hr3.some_of hnb0
  have hRa3 := hRa.below hB3
  obtain ⟨x, hx, hX⟩ := mask_any at_ 1023 (by omega)
  have hX' : bits .and .i64 at_ 1023 = (x : Int) := hX
  obtain ⟨y, hyy⟩ : ∃ y, y = x % nb := ⟨_, rfl⟩
  have hyl : y < nb := hyy ▸ Nat.mod_lt _ hnb0
  have hT : (x : Int).tmod (nb : Int) = (y : Int) := by rw [hyy]; rfl
  have hT2 : (x : Int) % (nb : Int) = (y : Int) := by rw [hyy]; rfl
  have j0 : (0 : Int) ≤ (y : Int) := Int.natCast_nonneg _
  have j1 : (y : Int) < (nb : Int) := by omega
  have i8 : ¬ (nb : Int) = 0 := by omega
  have i9 : ((nb : Int) == 0) = false := beq_false_of_ne i8
  have hcap := hr3.cap
  have hmx := hr3.max
  clear hX hyy hlb0
  have hown0 : Own (w3.alloc (.cells #[] 5)) w3.heap.size (.slice (some ⟨w3.heap.size, 0, none⟩) 0 0) [] := Own.empty w3
  have g1 : ([] : List Int).length + nb ≤ 140737488355328 := by simp only [List.length_nil]; omega
  have g2 : w3.heap.size ≤ (w3.alloc (.cells #[] 5)).heap.size := by simp
  have hr3' := hr3.alloc (.cells #[] 5)
  go_wp2_with (at_builtin; refine wpList_app rfl (.tmp 36) (.tmp 37) rfl w3.heap.size (.slice (some ⟨w3.heap.size, 0, none⟩) 0 0) [] rfl (some ⟨bb, ob, none⟩) nb cb lb rfl hown0 hr3' g1 g2 ?_; intro v' w4 hO' hg' hat; clear hat; rw [List.nil_append] at hO'; obtain ⟨Ac, nc, cc, rfl, hrc⟩ := hO'.form; obtain rfl : nc = nb := hrc.len.symm.trans hr3.len; obtain ⟨gc, hgc, hgb, hgl⟩ := hO'.head hnb0; subst hgc; obtain ⟨b1, o1, z1, e1, hz9, hz8, hz7, hz6, hc1⟩ := hO'.reads.at_ hyl; injection e1 with e1; injection e1 with e11 e12; subst e11; subst e12; rw [Nat.zero_add] at hc1; have hf1 := hO'.free y; have hO5 := hO'.store y (z := by_) ⟨h3, h4⟩; have B4 : Below w3.heap.size w3 w4 := Below.app ((Below.refl _ _).alloc (Nat.le_refl _) _) hown0 hg' g2 (Nat.le_refl _); clear hown0 hg' hrc hO')
  have B5 : Below w3.heap.size w3 (w4.setCell ⟨gc, y, none⟩ (.int .u8 by_)) := B4.setCell (p := ⟨gc, y, none⟩) hgb _
  have Rc5 := hO5.reads
  have Rb5 := hr3.below B5
  have Ra5 := hRa3.below B5
  have hB5 := below_then hB3 B5
  clear hgl B4 hO5 hc1 hf1 hz9 B5 hB3 hr3 hr3' hRa3 hRa hz6 hz7 hz8
  generalize w4.setCell ⟨gc, y, none⟩ (.int .u8 by_) = w5 at *
  have gb1 : ([] : List Int).length + nc ≤ 140737488355328 := g1
  have hlb := Rb5.len
  have gb2 : ([] ++ lb).length + 1 ≤ 140737488355328 := by rw [List.nil_append]; omega
  have hby : 0 ≤ by_ ∧ by_ ≤ 255 := ⟨h3, h4⟩
  have i1 : (y : Int) ≤ (cb : Int) := by omega
  have i2 : (y : Int) ≤ (nc : Int) := by omega
  have i3 : y ≤ cb := by omega
  have hyn : y ≤ nc := by omega
  have i7 : ¬ nc = 0 := by omega
  have i6 : 0 < nc := hnb0
  have i5 : (nc == 0) = false := beq_false_of_ne i7
  clear g1 g2 hk2
  go_region_held3 (fun _ => True) (trivial) (first | (refine step_appB w5 rfl (.tmp 57) (.tmp 58) rfl _ [] rfl (some ⟨bb, ob, none⟩) nc cb lb rfl (by first | exact Own.empty' (by simp) (by simp) | exact (Own.empty' (by simp) (by simp)).alloc _) (Rb5.below (by first | exact bd1 _ _ | exact bd2 _ _ _)) gb1 (by first | exact bd1 _ _ | exact bd2 _ _ _) ?_; intro v1 W1 hO1 hB1 hC1) | (refine step_appB w5 rfl (.tmp 59) (.tmp 61) rfl v1 _ rfl _ 1 1 [by_] rfl (by first | exact hO1 | exact hO1.alloc _) (by first | exact Rd.one' rfl hby | exact hC1 _ _ _ _ (Rd.one' (by simp) hby) (own_ne (by simp)) | exact hC1 _ _ _ _ ((Rd.one' (by simp) hby).alloc _) (own_ne (by simp))) gb2 (by first | exact hB1 | exact hB1.alloc hB1.size _) ?_; intro v2 W2 hO2 hB2 hC2; obtain ⟨A9, n9, c9, rfl, hr9⟩ := hO2.form))
  all_goals
    have Rt := (Rb5.take hyn).below hB2
    have hV := Bys.five (t := 31) (Ra5.below hB2) (Rb5.below hB2) (Rc5.below hB2) Rt hr9
    have hB6 := below_then hB5 hB2
    have hB7 := hB6.alloc hB6.size (.cells #[.slice A k c, .slice (some ⟨bb, ob, none⟩) nc cb, .slice (some ⟨gc, 0, none⟩) nc cc, .slice (some ⟨bb, ob, none⟩) y cb, .slice A9 n9 c9] 31)
    clear hC1 hC2 hO1 hO2 hB1 hB2 hr9 Rt Ra5 Rb5 Rc5 hB5 hB6 hX' hT hT2 hlb gb1 gb2
    obtain ⟨mk, hmk, hMK⟩ := mask_any most 15 (by omega)
    have hMK' : bits .and .i64 most 15 = (mk : Int) := hMK
    clear hMK
    go_wp2
    generalize hG : W2.heap.size = G at *
    generalize W2.alloc (.cells #[.slice A k c, .slice (some ⟨bb, ob, none⟩) nc cb, .slice (some ⟨gc, 0, none⟩) nc cc, .slice (some ⟨bb, ob, none⟩) y cb, .slice A9 n9 c9] 31) = W0 at *
    clear hG
    go_loopw [65] (fun i W => ∃ j : Nat, j ≤ 5 ∧ Below W0.heap.size W0 W ∧ i = .int .i64 j) (fun i _ => 5 - (intOf i).toNat)
    case atStart => exact ⟨0, by omega, Below.refl _ _, rfl⟩
    case round =>
      obtain ⟨j, hj, hb, rfl⟩ := hrel
      by_cases hlt : j < 5
      · obtain ⟨Aj, nj, cj, lj, a0, hRj⟩ := (hV.below hb) j hlt
        have hbG := World.block_lt_of_cell? _ _ a0
        have hN := Nums.three (W := wr) (t := 3) (z0 := most) (z1 := (mk : Int)) (z2 := 255) ⟨h5, h6⟩ ⟨by omega, by omega⟩ ⟨by omega, by omega⟩
        have hb1 := hb.alloc hb.size (.cells #[.int .i64 most, .int .i64 (mk : Int), .int .i64 255] 3)
        have hR1 := hRj.alloc (.cells #[.int .i64 most, .int .i64 (mk : Int), .int .i64 255] 3)
        go_wp2
        clear a0 hRj
        obtain ⟨W5, hW5⟩ : ∃ W5, W5 = wr.alloc (.cells #[.int .i64 most, .int .i64 (mk : Int), .int .i64 255] 3) := ⟨_, rfl⟩
        rw [← hW5] at hN hb1 hR1 ⊢
        clear hW5
        go_loopw [74] (fun i W => ∃ q : Nat, q ≤ 3 ∧ Below W5.heap.size W5 W ∧ i = .int .i64 q) (fun i _ => 3 - (intOf i).toNat)
        case atStart => exact ⟨0, by omega, Below.refl _ _, rfl⟩
        case round =>
          obtain ⟨q, hq, hbq, rfl⟩ := hrel
          by_cases hq3 : q < 3
          · obtain ⟨z, c0, hz1, hz2⟩ := (hN.below hbq) q hq3
            have hbg := World.block_lt_of_cell? _ _ c0
            obtain ⟨P, hP⟩ : ∃ P, inpsB z lj = P := ⟨_, rfl⟩
            obtain ⟨nP, hnP⟩ : ∃ nP, P.length = nP := ⟨_, rfl⟩
            have HP := Lib.hid hP
            have hRq := hR1.below hbq
            clear hP
            go_wp2_with fail
            refine (read_frame_any _ _ _ lj z _ hRq hz1 hz2).mono ?_
            rw [HP.out]
            rintro e w6 ⟨v6, rfl, hO6, hb6⟩
            obtain ⟨A6, c6, rfl, hr6⟩ := hO6.form hnP
            have hR6 := hRq.below hb6
            have hb7 := below_then hbq hb6
            clear hO6 hb6 hRq c0
            go_wp2_with fail
            refine (rinputs_any _ _ _ lj z _ hR6 hz1 hz2).mono ?_
            rw [HP.out]
            rintro e w7 ⟨v7, rfl, hO7, hb8⟩
            obtain ⟨A7, c7, rfl, hr7⟩ := hO7.form hnP
            have hr67 := hr6.below hb8
            have hb9 := below_then hb7 hb8
            clear hO7 hb8 hR6 hb7 hr6
            go_wp2_with fail
            refine (sameInputs_yes _ _ _ _ _ P _ hr67 hr7).mono ?_
            rintro e w8 ⟨rfl, j8, rfl⟩
            have hb10 := below_drewN hb9 j8
            clear hr67 hr7 hb9
            go_wp2
            go_roundw
            case rel => exact ⟨q + 1, by omega, hb10, by go_num⟩
            case measure => (simp [intOf] <;> omega)
          · have hb11 := below_then hb1 hbq
            go_wp2
            go_roundw
            case rel => exact ⟨j + 1, by omega, hb11, by go_num⟩
            case measure => (simp [intOf] <;> omega)
      · go_wp2_with fail
        refine (awake_any _).mono ?_
        rintro e w6 ⟨rfl, hb6⟩
        have hb7 := below_then (below_then hB7 hb) hb6
        go_wp2
        go_ret
        exact ⟨rfl, hb7⟩
end Go.Proofs.Ytoaijnpkenflbaa
