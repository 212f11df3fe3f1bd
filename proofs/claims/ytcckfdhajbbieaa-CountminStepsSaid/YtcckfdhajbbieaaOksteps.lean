/- The statements about package countmin: CountminSteps. Conditions: the program's sketches keep their contracts (ProgSk). -/
import Derived.Test.YtcckfdhajbbieaaOkalone
import Derived.Deep.CutBlock
namespace Go.Proofs.Ytcckfdhajbbieaa
open Go.ChangeShapes Go.WideShapes Go.ChangeAt Go.RowKit
set_option linter.unusedVariables false
set_option linter.unusedSimpArgs false
set_option maxRecDepth 100000

set_option maxHeartbeats 16000000 in
theorem countminSteps_walk {PK : RepSk} (HP : ProgSk PK) (dp wd : Int) (A : Option Addr) (m d : Nat) (B : Option Addr) (p c : Nat) (sd : Int) (w : World) (d0 : 0 ≤ dp) (d1 : dp ≤ 255) (n0 : 0 ≤ wd) (n1 : wd ≤ 255) (hA : RdI w A m d) (hB : ArgU w B p c) (s0 : 0 ≤ sd) (s1 : sd ≤ 18446744073709551615) :
    Calls Try.prog 4 #[.int .u8 dp, .int .u8 wd, .slice A m d, .slice B p c, .int .u64 sd] w (Yes w) := by
  obtain ⟨L, hB⟩ := hB
  have hcapB := hB.cap
  have hmaxB := hB.max
  obtain ⟨a, rfl⟩ : ∃ a : Nat, dp = (a : Int) := ⟨dp.toNat, by omega⟩
  obtain ⟨b, rfl⟩ : ∃ b : Nat, wd = (b : Int) := ⟨wd.toNat, by omega⟩
  have hwa : IntKind.i64.wrap (a : Int) = (a : Int) := by rw [IntKind.wrap_i64]; omega
  have hwb : IntKind.i64.wrap (b : Int) = (b : Int) := by rw [IntKind.wrap_i64]; omega
  obtain ⟨ra, hra, hra4⟩ : ∃ r : Nat, (a : Int).tmod 4 = (r : Int) ∧ r < 4 := ⟨((a : Int).tmod 4).toNat, by rw [Int.tmod_eq_emod_of_nonneg (by omega)]; omega, by rw [Int.tmod_eq_emod_of_nonneg (by omega)]; omega⟩
  obtain ⟨rb, hrb, hrb12⟩ : ∃ r : Nat, (b : Int).tmod 12 = (r : Int) ∧ r < 12 := ⟨((b : Int).tmod 12).toNat, by rw [Int.tmod_eq_emod_of_nonneg (by omega)]; omega, by rw [Int.tmod_eq_emod_of_nonneg (by omega)]; omega⟩
  have hra2 : (a : Int) % 4 = (ra : Int) := by rw [Int.tmod_eq_emod_of_nonneg (by omega)] at hra; exact hra
  have hrb2 : (b : Int) % 12 = (rb : Int) := by rw [Int.tmod_eq_emod_of_nonneg (by omega)] at hrb; exact hrb
  obtain ⟨M, hM⟩ : ∃ M : Nat, 1 + ra = M := ⟨_, rfl⟩
  obtain ⟨N, hN⟩ : ∃ N : Nat, 1 + rb = N := ⟨_, rfl⟩
  have hwra : IntKind.i64.wrap (ra : Int) = (ra : Int) := by rw [IntKind.wrap_i64]; omega
  have hwrb : IntKind.i64.wrap (rb : Int) = (rb : Int) := by rw [IntKind.wrap_i64]; omega
  have hM1 : IntKind.i64.wrap (1 + (ra : Int)) = (M : Int) := by rw [IntKind.wrap_i64]; omega
  have hN1 : IntKind.i64.wrap (1 + (rb : Int)) = (N : Int) := by rw [IntKind.wrap_i64]; omega
  have hMN : 1 ≤ M ∧ M ≤ 4 ∧ 1 ≤ N ∧ N ≤ 12 := by omega
  have hc : ckE (M : Int) (N : Int) 16 = 0 := by unfold ckE; rw [if_neg (by omega)]; rfl
  have D1 := DkS.new hA
  have hNd := new_any A m d w
  obtain ⟨w1, hw1⟩ : ∃ w1, w.alloc (.cells #[.slice A m d, .int .i64 0] 58) = w1 := ⟨_, rfl⟩
  obtain ⟨gd, hgd⟩ : ∃ gd, w.heap.size = gd := ⟨_, rfl⟩
  rw [hw1] at hNd D1
  rw [hgd] at hNd D1
  have hTd := table_dk D1.dk
  clear hM hN hra4 hrb12
  go_enter Try.func4, Try.ntmps4
  go_wp2_with fail
  refine hNd.mono ?_
  rintro e w2 ⟨rfl, hw2⟩
  subst hw2
  clear hNd
  go_wp2_with fail
  refine hTd.mono ?_
  rintro e w3 ⟨kt, ct, T, rfl, hT3, hkt, hD3, hg3⟩
  have D3 := (D1.deck hD3 hg3).1
  have hck : (dye (fun _ => 0) (some gd) 1) kt = 0 := dye_no (fun e => by injection e with e; have := D1.dk.lt; omega)
  have hNp := HP.new (k := 16) D3.tidy (by omega) hT3 (M : Int) (N : Int) (by unfold J64; omega) (by unfold J64; omega) ⟨s0, s1⟩
  clear hTd D1 hD3 hg3 hw1 hA hkt
  go_wp2_with fail
  refine hNp.mono ?_
  rintro e w4 (⟨_, g, rfl, col4, p4, t4⟩ | ⟨h0, _⟩)
  rotate_left
  · exact absurd hc h0
  have hT4 := hT3.stepC t4 (by rw [hck]; exact rng0 (by omega))
  have D4 := D3.step t4 (by unfold Rng; omega) (rng0 (by omega))
  have hNr := skNew (k := 32) t4.tidy (by omega) hT4 (M : Int) (N : Int) (by unfold J64; omega) (by unfold J64; omega) ⟨s0, s1⟩
  clear hNp hT3 D3 t4 hck
  go_wp2_with fail
  refine hNr.mono ?_
  rintro e w5 (⟨_, g2, rfl, hd⟩ | ⟨h0, _⟩)
  rotate_left
  · exact absurd hc h0
  rw [Int.toNat_natCast, Int.toNat_natCast] at p4 hd
  obtain ⟨col5, T5⟩ := DkSk.second HP (⟨D4, p4⟩ : DkSk PK w gd A m d g T sd col4 (newK M N) w4) hd
  clear hNr hT4 D4 p4 hd hwa hwb hra hra2 hrb hrb2 hwra hwrb hM1 hN1 hc
  go_wp2
  go_loopw [19] (fun iv wr => ∃ (i : Nat) (col : Col) (s : KSt), i ≤ p ∧ i ≤ 50 ∧ iv = .int .i64 (i : Int) ∧ TwSk PK w gd A m d g g2 T sd col s wr) (fun iv _ => p - (intOf iv).toNat)
  case atStart => exact ⟨0, col5, _, Nat.zero_le _, Nat.zero_le _, rfl, T5⟩
  case round =>
    clear T5
    obtain ⟨i, col, s, hip, hi50, rfl, T6⟩ := hrel
    by_cases hend : i < p ∧ i < 50
    · have hpi : (i : Int) < (p : Int) := by omega
      have h5i : (i : Int) < 50 := by omega
      obtain ⟨bB, oB, x, rfl, hx, hx0, hx1, _, cS⟩ := hB.at_ hend.1
      have hTT := Lib.hid T6
      clear T6 hx hB
      go_upto_region 12 with fail
      go_cut [20, 21] from 60 to 109 (fun vk vx wx => ∃ t : ByteArray, t.size ≤ 281474976710656 ∧ vk = .string t ∧ vx = .int .u64 x ∧ TwSk PK w gd A m d g g2 T sd col s wx)
      case first =>
        go_region_held3 (fun W => W.cell? ⟨bB, oB + i, none⟩ = some (.int .u64 x)) (first | exact (cellB cS hTT.out.dk.ds.since.below).1 | exact (cellB cS (hTT.out.deck HP h2 g2').dk.ds.since.below).1) ((go_at_call 18; refine (short_dk (hTT.out.dk.ds.dk.drewN 1)).mono ?_; rintro e W2 ⟨t, ht, rfl, h2, g2''⟩; have g2' := World.grownBy.trans (grow_drewN (World.grownBy.refl wr (some gd)) 1) g2''))
        all_goals
          go_wp2
          go_meet
          exact ⟨t, by omega, rfl, rfl, hTT.out.deck HP h2 g2'⟩
      case rest =>
        obtain ⟨t, ht, rfl, rfl, T2'⟩ := hcut
        have T2 := Lib.hid T2'
        clear T2' hTT cS
        generalize wc = W2 at *
        obtain ⟨v7, hv7⟩ : ∃ v, bits .and .u64 x 7 = v := ⟨_, rfl⟩
        obtain ⟨y, hy⟩ : ∃ v, bits .and .u64 x 31 = v := ⟨_, rfl⟩
        have hyb : 0 ≤ y ∧ y ≤ 18446744073709551615 := by rw [← hy]; exact bits_within .and .u64 _ _
        go_upto_if 78 with fail
        go_cut [21] from 60 to 109 (fun vx wx => ∃ z : Int, (0 ≤ z ∧ z ≤ 18446744073709551615) ∧ vx = .int .u64 z ∧ wx = W2)
        case first =>
          by_cases h7 : v7 = 1
          · have e7 : (v7 != 1) = false := by rw [h7]; rfl
            clear h7
            go_wp2
            go_meet
            exact ⟨x, ⟨hx0, hx1⟩, rfl, rfl⟩
          · have e7 : (v7 != 1) = true := by simp [h7]
            clear h7
            go_wp2
            go_meet
            exact ⟨y, hyb, rfl, rfl⟩
        case rest =>
          obtain ⟨z, hz, rfl, hwc⟩ := hcut
          subst hwc
          clear hv7 hy hyb
          obtain ⟨z0, hz0⟩ : ∃ v, bits .and .u64 (z / 8) 31 = v := ⟨_, rfl⟩
          go_upto_if 84 with fail
          go_cut [20] from 60 to 109 (fun vk wx => ∃ key : ByteArray, key.size ≤ 281474976710656 ∧ vk = .string key ∧ wx = wc)
          case first =>
            by_cases h5 : z0 = 5
            · have e5 : (z0 == 5) = true := by rw [h5]; rfl
              clear h5
              go_wp2
              go_meet
              exact ⟨⟨#[]⟩, by decide, rfl, rfl⟩
            · have e5 : (z0 == 5) = false := beq_false_of_ne h5
              clear h5
              go_wp2
              go_meet
              exact ⟨t, ht, rfl, rfl⟩
          case rest =>
            obtain ⟨key, hk, rfl, hwc⟩ := hcut
            subst hwc
            clear hz0 ht
            have hAd := HP.add T2.out.dk.pt T2.out.tidy key z hk hz
            obtain ⟨⟨er, s'⟩, hR⟩ : ∃ R, s.add (ixH T sd) key z = R := ⟨_, rfl⟩
            have hA2 := fun (col : Col) (W : World) (h : RefSk col 32 W g2 T sd s) (ht : Tidy col W) => skAdd h ht key z (by omega) hz
            rw [hR] at hAd
            simp only [hR] at hA2
            have hne : (er != er) = false := by simp
            go_wp2_with fail
            refine hAd.mono ?_
            rintro e w6 ⟨rfl, hd⟩
            obtain ⟨col6, T6, R6⟩ := T2.out.first hd
            have hA3 := hA2 _ _ R6 T6.tidy
            clear hAd hd T2 hA2 R6
            go_wp2_with fail
            refine hA3.mono ?_
            rintro e w7 ⟨rfl, hd⟩
            obtain ⟨col7, T7⟩ := DkSk.second HP T6 hd
            clear hA3 hd T6
            obtain ⟨v, hv⟩ : ∃ v, estK (ixH T sd) s'.rows key = v := ⟨_, rfl⟩
            have hE1 := fun W (hb : Below w7.heap.size w7 W) => HP.est (T7.below HP hb).dk.pt (T7.below HP hb).tidy key hk
            have hE2 : ∀ W, Below w7.heap.size w7 W → Calls Try.prog 20 #[.pointer (some ⟨g2, 0, none⟩), .string key] W fun e w' => e = .returned (.int .u64 (estK (ixH T sd) s'.rows key)) ∧ Below W.heap.size W w' := fun W hb => by
              obtain ⟨n, m, c, A, TA, tc, bs, _, H⟩ := (T7.below HP hb).rf
              refine (H.estimate (by omega)).mono ?_
              rintro e w' ⟨h1, j, rfl⟩
              exact ⟨h1, below_drewN (Below.refl _ _) j⟩
            have hTo := fun W (hb : Below w7.heap.size w7 W) => HP.total (T7.below HP hb).dk.pt (T7.below HP hb).tidy
            have hcS := fun W (hb : Below w7.heap.size w7 W) => (T7.below HP hb).rf.sumC
            simp only [hv] at hE1 hE2
            have hnv : (v != v) = false := by simp
            obtain ⟨sm, hsm⟩ : ∃ sm, s'.sum = sm := ⟨_, rfl⟩
            simp only [hsm] at hTo hcS
            have hns : (sm != sm) = false := by simp
            have hDn := Lib.hid (show ∀ W, Below w7.heap.size w7 W → TwSk PK w gd A m d g g2 T sd col7 s' W from fun W hb => T7.below HP hb)
            clear T7 hv hsm hR
            go_wp2
            go_region_held3 (fun W => W.cell? ⟨g2, 3, none⟩ = some (.int .u64 sm)) (first | exact hcS _ (bdM w7) | exact hcS _ b8 | exact hcS _ b9 | exact hcS _ b10) (first | (go_at_call 15; refine (hE1 _ (bdM w7)).mono ?_; rintro e w8 ⟨rfl, h8⟩; have b8 := below_then (bdM w7) h8) | (go_at_call 20; refine (hE2 _ b8).mono ?_; rintro e w9 ⟨rfl, h9⟩; have b9 := below_then b8 h9) | (go_at_call 16; refine (hTo _ b9).mono ?_; rintro e w10 ⟨rfl, h10⟩; have b10 := below_then b9 h10))
            all_goals
              go_wp2
              go_roundw
              case rel => exact ⟨i + 1, col7, s', by omega, by omega, by go_num, hDn.out _ b10⟩
              case measure => (simp [intOf] <;> omega)
    · have hcs : ¬ (i : Int) < (p : Int) ∨ ((i : Int) < (p : Int) ∧ ¬ (i : Int) < 50) := by omega
      obtain ⟨m2, c2, A2, hc2, hR2, hm2⟩ := T6.rf.rowsC
      have hl2 := hR2.choose_spec.2.1
      have hRw := fun W (hb : Below wr.heap.size wr W) => HP.rows (T6.below HP hb).dk.pt (T6.below HP hb).tidy
      have hcS : ∀ W, Below wr.heap.size wr W → W.cell? ⟨g2, 0, none⟩ = some (.slice A2 m2 c2) := fun W hb => (cellB hc2 hb).1
      have hRt : ∀ W, Below wr.heap.size wr W → RdR W A2 m2 c2 s.rows := fun W hb => hR2.below hb
      have hB0 := Lib.hid T6.dk.ds.since.below
      have HRt := Lib.hid hRt
      clear hend T6 hc2 hR2 hRt
      rcases hcs with hpi | ⟨hpi, h5i⟩
      all_goals
        go_wp2
        go_region_held3 (fun W => W.cell? ⟨g2, 0, none⟩ = some (.slice A2 m2 c2)) (first | exact hcS _ (bdM wr) | exact hcS _ b8 | exact hcS _ b9 | exact hcS _ b10) (first | (go_at_call 17; refine (hRw _ (bdM wr)).mono ?_; rintro e w8 ⟨A8, n8, c8, rfl, hn8, hc8, hR8', h8⟩; have hR8 := hR8'.rd; have b8 := below_then (bdM wr) h8; obtain rfl : n8 = m2 := hR8.choose_spec.2.1.symm.trans hl2) | (go_at_call 21; refine (sameRows_yes w8 hR8 (HRt.out _ b8) ⟨hn8, hc8⟩ hm2).mono ?_; rintro e w9 ⟨rfl, j9, hw9⟩; have b9 : Below wr.heap.size wr w9 := (by rw [hw9]; exact below_drewN b8 j9); clear hw9) | (go_at_call 9; refine (kawake_any HP _).mono ?_; rintro e w10 ⟨rfl, h10⟩; have b10 := below_then b9 h10))
        all_goals
          have hbE := below_then hB0.out b10
          clear hcS hRw
          go_wp2
          go_ret
          exact ⟨rfl, hbE⟩
end Go.Proofs.Ytcckfdhajbbieaa
