/- The statements about package index: IndexSteps. Conditions: the program's tables keep their contracts (ProgMk). -/
import Derived.Test.YtdifkcjciblkpaaOawake
import Derived.Test.YtdifkcjciblkpaaQshort
import Derived.Test.YtdifkcjciblkpaaTlist
import Derived.Test.YtdifkcjciblkpaaUlift
import Derived.Deep.CutBlock
namespace Go.Proofs.Ytdifkcjciblkpaa
open Go.ChangeShapes Go.WideShapes Go.ChangeAt Go.RowKit
set_option linter.unusedVariables false
set_option linter.unusedSimpArgs false
set_option maxRecDepth 100000

/-- A deck, the program's table, the specified one. -/
structure PairM (PM : RepM Int) (w : World) (gd : Nat) (A : Option Addr) (m d g gq : Nat) (col : Col) (q : MSt Int) (r : MSt Int) (W : World) : Prop where
  ds : DkS w col W gd A m d
  pm : PM col 16 W g q
  rm : RefM col 32 W gq r
section
variable {PM : RepM Int} {w W W' : World} {col col' : Col} {gd g gq m d : Nat} {A : Option Addr} {P : Nat → Prop} {q q' r r' : MSt Int}
theorem PairM.tidy (h : PairM PM w gd A m d g gq col q r W) : Tidy col W := h.ds.tidy
theorem PairM.below (HP : ProgMi PM) (h : PairM PM w gd A m d g gq col q r W) (hb : Below W.heap.size W W') : PairM PM w gd A m d g gq col q r W' :=
  ⟨h.ds.below hb, HP.below h.pm h.tidy hb, h.rm.below h.tidy hb⟩
theorem PairM.deck (HP : ProgMi PM) (h : PairM PM w gd A m d g gq col q r W) (hD : Dk w W' gd A m d) (hg : W.grownBy W' (some gd)) : PairM PM w gd A m d g gq col q r W' := by
  obtain ⟨hS, s⟩ := h.ds.deck hD hg
  exact ⟨hS, HP.keep h.pm s (fun c => no16 (by omega) (by omega)) (by omega), h.rm.keep s (fun c => no16 (by omega) (by omega))⟩
theorem rng1 {k : Nat} (hk : 2 ≤ k) : ¬ Rng k 1 := fun h => by have := h.1; omega
theorem PairM.did1 (h : PairM PM w gd A m d g gq col q r W) (hd : DidPM PM col 16 W g q' W') : ∃ col', PairM PM w gd A m d g gq col' q' r W' := by
  obtain ⟨col', h1, s⟩ := hd
  exact ⟨col', h.ds.step s (rng1 (by omega)) (rng0 (by omega)), h1, h.rm.keep s (rngs_no (by omega))⟩
theorem PairM.did2 (HP : ProgMi PM) (h : PairM PM w gd A m d g gq col q r W) (hd : DidRM col 32 W gq r' W') : ∃ col', PairM PM w gd A m d g gq col' q r' W' := by
  obtain ⟨col', h1, s⟩ := hd
  exact ⟨col', h.ds.step s (rng1 (by omega)) (rng0 (by omega)), HP.keep h.pm s (rngs_no (by omega)) (rng0 (by omega)), h1⟩
end
set_option maxHeartbeats 8000000 in
theorem indexSteps_walk {PM : RepM Int} (HK : ProgMk PM) (A : Option Addr) (m d : Nat) (B : Option Addr) (p q0 : Nat) (raw : ByteArray) (seed : Int) (w : World) (hA : RdI w A m d) (hB : RdI w B p q0) (hraw : raw.size ≤ 281474976710656) (i0 : 0 ≤ seed) (i1 : seed ≤ 18446744073709551615) :
    Calls Try.prog 4 #[.slice A m d, .slice B p q0, .string raw, .int .u64 seed] w (Yes w) := by
  have HP := HK.all
  have hcapB := hB.1
  have hmaxB := hB.2.1
  simp only [maxLen] at hmaxB
  go_enter Try.func4, Try.ntmps4
  go_wp2_with fail
  refine (new_any _ _ _ _).mono ?_
  rintro e w1 ⟨rfl, rfl⟩
  have D1 := DkS.new hA
  generalize hW1 : w.alloc (.cells #[.slice A m d, .int .i64 0] 57) = W1 at *
  generalize w.heap.size = gd at *
  clear hA hW1
  go_wp2_with fail
  refine (next_dk D1.dk 12 (by omega) (by omega)).mono ?_
  rintro e W2 ⟨r, hr, rfl, h2, g2⟩
  obtain ⟨D2, _⟩ := D1.deck h2 g2
  obtain ⟨N, hN⟩ : ∃ N : Nat, r + 1 = N := ⟨_, rfl⟩
  have hn1 : IntKind.i64.wrap (1 + (r : Int)) = (N : Int) := by rw [IntKind.wrap_i64]; omega
  have hn2 : IntKind.i64.wrap (N : Int) = (N : Int) := by rw [IntKind.wrap_i64]; omega
  have hNb := Lib.hid (show 1 ≤ N ∧ N ≤ 12 by omega)
  clear D1 h2 g2 hN hr
  go_wp2_with fail
  refine (table_dk D2.dk).mono ?_
  rintro e W3 ⟨bt, ct, T, rfl, hT, hbt, h3, g3⟩
  obtain ⟨D3, _⟩ := D2.deck h3 g3
  have R3 : RdU0 _ W3 (some ⟨bt, 0, none⟩) 16 ct T := ⟨hT, fun _ b o sp e => by injection e with e; injection e with e; subst e; exact D2.tidy _ hbt⟩
  clear D2 h3 g3 hT hbt
  go_wp2_with fail
  refine (HP.new (k := 16) D3.tidy (by omega) R3 (N : Int) seed (by have := hNb.out; omega) ⟨i0, i1⟩).mono ?_
  rintro e W4 (⟨_, g, rfl, hd⟩ | ⟨h0, _⟩)
  rotate_left
  · have := hNb.out; unfold mapE tabE at h0; rw [if_neg (by omega)] at h0; exact absurd rfl h0
  obtain ⟨col4, p4, s4⟩ := hd
  have D4 := D3.step s4 (rng1 (by omega)) (rng0 (by omega))
  clear D3 R3
  go_wp2_with fail
  refine (rmNew (k := 32) D4.tidy (by omega) (N : Int) (by have := hNb.out; omega) (some ⟨bt, 0, none⟩) 16 ct (by omega)).mono ?_
  rintro e W5 (⟨_, gq, rfl, col5, p5, s5⟩ | ⟨h0, _⟩)
  rotate_left
  · have := hNb.out; unfold mapE tabE at h0; rw [if_neg (by omega)] at h0; exact absurd rfl h0
  have T5 : PairM PM w gd A m d g gq col5 (newM Int N) (newM Int N) W5 := ⟨D4.step s5 (rng1 (by omega)) (rng0 (by omega)), HP.keep p4 s5 (rngs_no (by omega)) (rng0 (by omega)), p5⟩
  clear D4 p4 s4 s5 p5 hNb
  go_wp2
  go_loopw [16] (fun iv wr => ∃ (i : Nat) (col : Col) (q : MSt Int), i ≤ p ∧ i ≤ 80 ∧ iv = .int .i64 i ∧ PairM PM w gd A m d g gq col q q wr) (fun iv _ => p - (intOf iv).toNat)
  case atStart => exact ⟨0, _, _, Nat.zero_le _, Nat.zero_le _, rfl, T5⟩
  case round =>
    clear T5
    obtain ⟨i, col, q, hip, hi80, rfl, T⟩ := hrel
    by_cases hend : i < p ∧ i < 80
    · have hpi : (i : Int) < (p : Int) := by omega
      have h8i : (i : Int) < 80 := by omega
      obtain ⟨bB, oB, s, rfl, cS, hs0, hs1⟩ := (hB.below T.ds.since.below).2.2 i hend.1
      obtain ⟨M, hMm, hM⟩ := mask_any (s / 4) 15 (by omega)
      have hM' : bits .and .i64 (s / 4) 15 = (M : Int) := hM
      obtain ⟨V, hVm, hV⟩ := mask_any s 3 (by omega)
      have hV' : bits .and .i64 s 3 = (V : Int) := hV
      clear hM hV
      have hTT := Lib.hid T
      clear T hB
      go_wp2_with fail
      refine (short_dk hTT.out.ds.dk).mono ?_
      rintro e W2 ⟨t, ht, rfl, h2, g2⟩
      have T2 := Lib.hid (hTT.out.deck HP h2 g2)
      clear h2 g2 hTT cS
      go_upto_if 77 with fail
      go_cut [18] from 58 to 148 (fun vk wx => ∃ key : ByteArray, key.size ≤ 281474976710656 ∧ vk = .string key ∧ wx = W2)
      case first =>
        by_cases hM0 : M = 0
        · subst hM0
          go_wp2_with fail
          go_meet
          exact ⟨raw, hraw, rfl, rfl⟩
        · have g0 : ((M : Int) == 0) = false := by rw [beq_eq_false_iff_ne]; omega
          go_wp2_with fail
          go_meet
          exact ⟨t, by omega, rfl, rfl⟩
      case rest =>
        clear hM' hMm
        obtain ⟨key, hk, rfl, rfl⟩ := hcut
        have hV4 : V = 0 ∨ V = 1 ∨ V = 2 ∨ V = 3 := by omega
        go_upto_block 2 with fail
        go_cut [19, 20, 21, 22, 23, 24, 25, 26] from 58 to 148 (fun va vb vc vd ve vf vg vh wx => ∃ (col' : Col) (q' : MSt Int), PairM PM w gd A m d g gq col' q' q' wx)
        case first =>
          rcases hV4 with rfl | rfl | rfl | rfl
          rotate_left 2
          · go_wp2_with fail
            refine (HP.del T2.out.pm T2.out.tidy key hk).mono ?_
            rintro e w3 ⟨rfl, hd3⟩
            obtain ⟨col3, T3⟩ := T2.out.did1 hd3
            go_wp2_with fail
            refine (rmDel T3.rm T3.tidy key).mono ?_
            rintro e w4 ⟨rfl, hd4⟩
            obtain ⟨col4, T4⟩ := T3.did2 HP hd4
            have e1 : getG 0 q key = getV q key := rfl
            clear T3 hd3 hd4
            rw [e1]
            generalize getV q key = gv at *
            have hne : (gv.2 != gv.2) = false := by simp
            go_wp2_with fail
            go_meet
            exact ⟨_, _, T4⟩
          · go_wp2_with fail
            refine (HP.get T2.out.pm T2.out.tidy key hk).mono ?_
            rintro e w3 ⟨rfl, hb3⟩
            have T3 := T2.out.below HP hb3
            go_wp2_with fail
            refine (rmGet T3.rm T3.tidy key).mono ?_
            rintro e w4 ⟨rfl, hb4⟩
            have T4 := T3.below HP hb4
            have e1 : getG 0 q key = getV q key := rfl
            clear T3 hb3 hb4
            rw [e1]
            generalize getV q key = gv at *
            have hne : (gv.2 != gv.2) = false := by simp
            go_wp2_with fail
            go_meet
            exact ⟨_, _, T4⟩
          all_goals
            go_wp2_with fail
            refine (HP.put T2.out.pm T2.out.tidy key s hk ⟨hs0, hs1⟩).mono ?_
            rintro e w3 ⟨rfl, hd3⟩
            obtain ⟨col3, T3⟩ := T2.out.did1 hd3
            go_wp2_with fail
            refine (rmPut T3.rm T3.tidy key s ⟨hs0, hs1⟩).mono ?_
            rintro e w4 ⟨rfl, hd4⟩
            obtain ⟨col4, T4⟩ := T3.did2 HP hd4
            clear T3 hd3 hd4
            go_wp2_with fail
            go_meet
            exact ⟨_, _, T4⟩
        case rest =>
          clear T2 hV4 hV' hVm
          obtain ⟨col5, q5, T5⟩ := hcut
          have hlen5 := (HP.good T5.pm).len
          have hn85 := (HP.good T5.pm).n8
          go_wp2_with fail
          refine (HK.keys T5.pm T5.tidy).mono ?_
          rintro e W6 ⟨A6, c6, rfl, R6, _, hb6⟩
          have T6 := T5.below HP hb6
          clear T5 hb6
          go_wp2_with fail
          refine (rmKeys T6.rm).mono ?_
          rintro e W7 ⟨A7, c7, rfl, R7, _, hb7⟩
          have T7 := T6.below HP hb7
          have R67 := R6.below hb7
          clear T6 hb7 R6
          go_wp2_with fail
          refine (sameTexts_yes _ _ _ _ _ q5.keys W7 R67 R7).mono ?_
          rintro e W8 ⟨rfl, hb8⟩
          have T8 := T7.below HP hb8
          clear T7 hb8 R67 R7
          go_wp2_with fail
          refine (HP.len T8.pm T8.tidy).mono ?_
          rintro e W9 ⟨rfl, hb9⟩
          have T9 := T8.below HP hb9
          have hkl := keys_len q5
          rw [hkl]
          clear T8 hb9 hkl
          go_wp2
          go_roundw
          case rel => exact ⟨i + 1, _, _, by omega, by omega, by go_num, T9⟩
          case measure => (simp [intOf] <;> omega)
    · have hE := Lib.hid T.ds.since
      clear T hB
      by_cases hp : i < p
      · have hpi : (i : Int) < (p : Int) := by omega
        have h5i : ¬ (i : Int) < 80 := by omega
        go_wp2_with fail
        refine (oawake_any HP _).mono ?_
        rintro e WI ⟨rfl, hbI⟩
        have hb := (hE.out.below2 hbI).below
        clear hE hbI
        go_wp2
        go_ret
        exact ⟨rfl, hb⟩
      · have hpi : ¬ (i : Int) < (p : Int) := by omega
        go_wp2_with fail
        refine (oawake_any HP _).mono ?_
        rintro e WI ⟨rfl, hbI⟩
        have hb := (hE.out.below2 hbI).below
        clear hE hbI
        go_wp2
        go_ret
        exact ⟨rfl, hb⟩
end Go.Proofs.Ytdifkcjciblkpaa
