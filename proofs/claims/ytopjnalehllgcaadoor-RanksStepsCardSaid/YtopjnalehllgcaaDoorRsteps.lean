/- The statements about package ranks: count, RanksSteps. Conditions: the program's orders keep their contracts (ProgR). -/
import Derived.Test.YtopjnalehllgcaaDoorRsorted
import Derived.Deep.CutBlock
namespace Go.Proofs.YtopjnalehllgcaaDoor
open Go.ChangeShapes Go.WideShapes Go.ChangeAt Go.RowKit
set_option linter.unusedVariables false
set_option linter.unusedSimpArgs false
set_option maxRecDepth 100000

/-- A count that the statement draws. -/
theorem count_any (s raw : Int) (w : World) (hs : J64 s) (hr : U64 raw) : Calls Tryd.prog 18 #[.int .i64 s, .int .u64 raw] w fun e w' => ∃ x : Int, U64 x ∧ e = .returned (.int .u64 x) ∧ w' = w := by
  obtain ⟨hs0, hs1⟩ := hs
  obtain ⟨X, hXm, hX⟩ := mask_any (s / 512) 15 (by omega)
  have hX' : bits .and .i64 (s / 512) 15 = (X : Int) := hX
  obtain ⟨Y, hYm, hY⟩ := mask_any (s / 512) 7 (by omega)
  have hY' : bits .and .i64 (s / 512) 7 = (Y : Int) := hY
  have hYw : IntKind.u64.wrap (Y : Int) = (Y : Int) := IntWalk.u64_in _ ⟨by omega, by omega⟩
  have hUY := Lib.hid (show U64 (Y : Int) by unfold U64; omega)
  have hUr := Lib.hid hr
  clear hX hY hr
  by_cases h0 : X = 0
  · have e0 : ((X : Int) == 0) = true := beq_iff_eq.2 (by omega)
    subst h0
    go_enter Tryd.func18, Tryd.ntmps18
    go_wp2
    go_ret
    exact ⟨raw, hUr.out, rfl, rfl⟩
  · have e0 : ((X : Int) == 0) = false := beq_false_of_ne (by omega)
    go_enter Tryd.func18, Tryd.ntmps18
    go_wp2
    go_ret
    exact ⟨(Y : Int), hUY.out, rfl, rfl⟩
/-- The program's order, the specified one. -/
structure PairR (PR : RepR) (w : World) (g gq : Nat) (col : Col) (q r : CSt Int) (W : World) : Prop where
  since : Since w col W
  pr : PR col 16 W g q
  rr : RefR col 32 W gq r
section
variable {PR : RepR} {w W W' : World} {col col' : Col} {g gq : Nat} {P : Nat → Prop} {q q' r r' : CSt Int}
theorem PairR.tidy (h : PairR PR w g gq col q r W) : Tidy col W := h.since.tidy
theorem PairR.below (HP : ProgR PR) (h : PairR PR w g gq col q r W) (hb : Below W.heap.size W W') : PairR PR w g gq col q r W' := ⟨h.since.belowL hb, HP.below h.pr h.tidy hb, h.rr.below h.tidy hb⟩
theorem PairR.did1 (h : PairR PR w g gq col q r W) (hd : DidPR PR col 16 W g q' W') : ∃ col', PairR PR w g gq col' q' r W' := by
  obtain ⟨col', h1, s⟩ := hd
  exact ⟨col', h.since.step s (rng0 (by omega)), h1, h.rr.keep s (rngs_no (by omega))⟩
theorem PairR.did2 (HP : ProgR PR) (h : PairR PR w g gq col q r W) (hd : DidRR col 32 W gq r' W') : ∃ col', PairR PR w g gq col' q r' W' := by
  obtain ⟨col', h1, s⟩ := hd
  exact ⟨col', h.since.step s (rng0 (by omega)), HP.keep h.pr s (rngs_no (by omega)) (rng0 (by omega)), h1⟩
theorem RefR.openI {k : Nat} (h : RefR col k W g q) : ∃ A c, W.cell? ⟨g, 1, none⟩ = some (.slice A q.l.length c) ∧ RdG kI W A q.l.length c q.ns := by
  obtain ⟨hG, vN, vV, H⟩ := h
  obtain ⟨A, c, rfl, R1, _⟩ := H.ns.own.form (ns_len q)
  exact ⟨A, c, H.box.cell 1 rfl, R1⟩
end
theorem PairR.order {PR : RepR} (HP : ProgR PR) {w W : World} {col : Col} {g gq LQ : Nat} {q : CSt Int} (T : PairR PR w g gq col q q W) (hL : q.l.length = LQ) (W' : World) (hb : Below W.heap.size W W') :
    Calls Tryd.prog 16 #[.pointer (some ⟨g, 0, none⟩)] W' fun e w' => ∃ A c, e = .returned (.slice A LQ c) ∧ RdG kI w' A LQ c q.ns ∧ Below W.heap.size W w' :=
  (HP.order (T.below HP hb).pr (T.below HP hb).tidy).mono fun e w' ⟨A, n, c, hn, he, hR, _, hB⟩ => by
    have : LQ = n := by rw [← hL, ← hn]; exact (ns_len q).symm
    subst this
    exact ⟨A, c, he, hR, below_then hb hB⟩
theorem sameInts_isR {W0 W : World} {A A' : Option Addr} {n c c' : Nat} {l : List Int} (h : RdG kI W A n c l) (h' : RdG kI W A' n c' l) (hb : Below W0.heap.size W0 W) :
    Calls Tryd.prog 24 #[.slice A n c, .slice A' n c'] W fun e w' => e = .returned (.bool true) ∧ Below W0.heap.size W0 w' :=
  (sameInts_any A A' n n c c' l l W h h').mono fun e w' ⟨he, j, hj⟩ => ⟨by rw [he, decide_eq_true rfl], by rw [hj]; exact below_drewN hb j⟩
set_option maxHeartbeats 16000000 in
theorem ranksSteps_walk {PR : RepR} (HP : ProgR PR) (n : Int) (B : Option Addr) (p c : Nat) (raw any : Int) (w : World) (n0 : 0 ≤ n) (n1 : n ≤ 255) (hB : RdI w B p c) (r0 : 0 ≤ raw) (r1 : raw ≤ 18446744073709551615) (a0 : -9223372036854775808 ≤ any) (a1 : any ≤ 9223372036854775807) (hTab : Tab w) :
    Calls Tryd.prog 4 #[.int .u8 n, .slice B p c, .int .u64 raw, .int .i64 any] w (Yes w) := by
  have hcapB := hB.1
  have hmaxB := hB.2.1
  simp only [maxLen] at hmaxB
  have hS0 := Since.start w
  obtain ⟨a, rfl⟩ : ∃ a : Nat, n = (a : Int) := ⟨n.toNat, by omega⟩
  have hw0 : IntKind.i64.wrap (a : Int) = (a : Int) := by rw [IntKind.wrap_i64]; omega
  obtain ⟨r, hr⟩ : ∃ r : Nat, (a : Int).tmod 10 = (r : Int) := ⟨((a : Int).tmod 10).toNat, by rw [Int.tmod_eq_emod_of_nonneg (by omega)]; omega⟩
  have hr20 : r < 10 := by rw [Int.tmod_eq_emod_of_nonneg (by omega)] at hr; omega
  have hr2 : (a : Int) % 10 = (r : Int) := by rw [Int.tmod_eq_emod_of_nonneg (by omega)] at hr; exact hr
  obtain ⟨N, hN⟩ : ∃ N : Nat, 1 + r = N := ⟨_, rfl⟩
  have hw1 : IntKind.i64.wrap (1 + (r : Int)) = (N : Int) := by rw [IntKind.wrap_i64]; omega
  have hwr : IntKind.i64.wrap (r : Int) = (r : Int) := by rw [IntKind.wrap_i64]; omega
  have hnew := HP.new (k := 16) hS0.tidy (hS0.tb hTab) (by omega) (N : Int) (by unfold J64; omega)
  have hJN : J64 (N : Int) := by unfold J64; omega
  have hE : rnkE (N : Int) = 0 := if_neg (by omega)
  have hany : J64 any := ⟨a0, a1⟩
  have hraw : U64 raw := ⟨r0, r1⟩
  clear hN
  go_enter Tryd.func4, Tryd.ntmps4
  go_wp2_with fail
  refine hnew.mono ?_
  rintro e w4 (⟨_, g, rfl, hd⟩ | ⟨h0, _⟩)
  rotate_left
  · rw [hE] at h0; cases h0
  obtain ⟨col4, p4, s4⟩ := hd
  have A4 : AtR PR w col4 w4 16 g (newC Int N) := ⟨hS0.step s4 (rng0 (by omega)), p4⟩
  clear s4 p4 hS0 hnew
  go_wp2_with fail
  refine (rrNew (k := 32) A4.tidy (by omega) (N : Int) hJN).mono ?_
  rintro e w5 (⟨_, gq, rfl, col5, p5, s5⟩ | ⟨h0, _⟩)
  rotate_left
  · rw [hE] at h0; cases h0
  have T5 : PairR PR w g gq col5 (newC Int N) (newC Int N) w5 := ⟨A4.since.step s5 (rng0 (by omega)), HP.keep A4.pr s5 (rngs_no (by omega)) (rng0 (by omega)), p5⟩
  clear A4 s5 p5 hw1 hw0 hr hr2 hwr hE hJN
  go_wp2
  go_loopw [13] (fun iv wr => ∃ (i : Nat) (col : Col) (q : CSt Int), i ≤ p ∧ i ≤ 80 ∧ iv = .int .i64 i ∧ PairR PR w g gq col q q wr) (fun iv _ => p - (intOf iv).toNat)
  case atStart => exact ⟨0, _, _, Nat.zero_le _, Nat.zero_le _, rfl, T5⟩
  case round =>
    clear T5
    obtain ⟨i, col, q, hip, hi60, rfl, T⟩ := hrel
    by_cases hend : i < p ∧ i < 80
    · have hpi : (i : Int) < (p : Int) := by omega
      have h6i : (i : Int) < 80 := by omega
      obtain ⟨bB, oB, s, rfl, cS, hs0, hs1⟩ := (hB.below T.since.below).2.2 i hend.1
      obtain ⟨V, hVm, hV⟩ := mask_any s 7 (by omega)
      have hV' : bits .and .i64 s 7 = (V : Int) := hV
      obtain ⟨M, hMm, hM⟩ := mask_any (s / 8) 15 (by omega)
      have hM' : bits .and .i64 (s / 8) 15 = (M : Int) := hM
      obtain ⟨X, hXm, hX⟩ := mask_any (s / 128) 3 (by omega)
      have hX' : bits .and .i64 (s / 128) 3 = (X : Int) := hX
      obtain ⟨Y, hYm, hY⟩ := mask_any (s / 8192) 3 (by omega)
      have hY' : bits .and .i64 (s / 8192) 3 = (Y : Int) := hY
      clear hM hV hX hY hB
      have hJs : J64 s := ⟨hs0, hs1⟩
      have hJM : J64 (M : Int) := by unfold J64; omega
      have HT := Lib.hid T
      clear T
      go_upto_region 10 with fail
      go_cut [83] from 57 to 82 (fun vb wx => ∃ b : Bool, vb = .bool b ∧ wx = wr)
      case first =>
        by_cases hX0 : X = 0
        · subst hX0
          by_cases hY0 : Y = 0
          · subst hY0
            go_wp2_with fail
            go_meet
            exact ⟨_, rfl, rfl⟩
          · have g0 : ((Y : Int) == 0) = false := by rw [beq_eq_false_iff_ne]; omega
            go_wp2_with fail
            go_meet
            exact ⟨_, rfl, rfl⟩
        · have g0 : ((X : Int) == 0) = false := by rw [beq_eq_false_iff_ne]; omega
          go_wp2_with fail
          go_meet
          exact ⟨_, rfl, rfl⟩
      case rest =>
      clear hX' hXm hY' hYm
      obtain ⟨bb, rfl, rfl⟩ := hcut
      go_upto_if 83 with fail
      go_cut [15] from 57 to 202 (fun vk wx => ∃ z : Int, J64 z ∧ vk = .int .i64 z ∧ wx = wc)
      case first =>
        cases bb with
        | true =>
          go_wp2_with fail
          go_meet
          exact ⟨any, hany, rfl, rfl⟩
        | false =>
          go_wp2_with fail
          go_meet
          exact ⟨(M : Int), hJM, rfl, rfl⟩
      case rest =>
        obtain ⟨z, hz, rfl, rfl⟩ := hcut
        have hCn := fun W => count_any s raw W hJs hraw
        go_wp2_with fail
        refine (hCn _).mono ?_
        rintro e wA ⟨x, hx, rfl, hwA⟩
        subst hwA
        clear hCn
        have hV4 : V = 0 ∨ V = 1 ∨ V = 2 ∨ V = 3 ∨ V = 4 ∨ V = 5 ∨ V = 6 ∨ V = 7 := by omega
        go_upto_block 2 with fail
        go_cut [17, 18, 19, 20] from 57 to 202 (fun va vb vc vd wx => ∃ (y f : Int) (col' : Col) (q' : CSt Int) (W : World), va = .int .u64 y ∧ vb = .int .u64 y ∧ vc = .int .i64 f ∧ vd = .int .i64 f ∧ W = wx ∧ PairR PR w g gq col' q' q' W)
        case first =>
          clear cS
          rcases hV4 with rfl | rfl | rfl | rfl | rfl | rfl | rfl | rfl
          rotate_left 6
          iterate 2
            · as_aux_lemma =>
                go_wp2_with fail
                refine (HP.rem HT.out.pr HT.out.tidy z hz).mono ?_
                rintro e w3 ⟨rfl, hd3⟩
                obtain ⟨col3, T3⟩ := HT.out.did1 hd3
                go_wp2_with fail
                refine (rrRemove T3.rr T3.tidy z hz).mono ?_
                rintro e w4 ⟨rfl, hd4⟩
                obtain ⟨col4, T4⟩ := T3.did2 HP hd4
                clear T3 hd3 hd4 HT
                generalize q.value 0 z = gv at *
                generalize q.rem z = qq at *
                go_wp2_with fail
                go_meet
                exact ⟨gv.1, gv.2, _, _, _, rfl, rfl, rfl, rfl, rfl, T4⟩
          iterate 3
            · as_aux_lemma =>
                go_wp2_with fail
                refine (HP.ins HT.out.pr HT.out.tidy z x hz hx).mono ?_
                rintro e w3 ⟨rfl, hd3⟩
                obtain ⟨col3, T3⟩ := HT.out.did1 hd3
                go_wp2_with fail
                refine (rrInsert T3.rr T3.tidy z x hz hx).mono ?_
                rintro e w4 ⟨rfl, hd4⟩
                obtain ⟨col4, T4⟩ := T3.did2 HP hd4
                clear T3 hd3 hd4 HT
                generalize q.insR z x = gv at *
                go_wp2_with fail
                go_meet
                exact ⟨0, gv.1, _, _, _, rfl, rfl, rfl, rfl, rfl, T4⟩
          iterate 3
            · as_aux_lemma =>
                go_wp2_with fail
                refine (HP.raise HT.out.pr HT.out.tidy z x hz hx).mono ?_
                rintro e w3 ⟨rfl, hd3⟩
                obtain ⟨col3, T3⟩ := HT.out.did1 hd3
                go_wp2_with fail
                refine (rrRaise T3.rr T3.tidy z x hz hx).mono ?_
                rintro e w4 ⟨rfl, hd4⟩
                obtain ⟨col4, T4⟩ := T3.did2 HP hd4
                clear T3 hd3 hd4 HT
                generalize q.raiseR z x = gv at *
                go_wp2_with fail
                go_meet
                exact ⟨0, gv.1, _, _, _, rfl, rfl, rfl, rfl, rfl, T4⟩
        case rest =>
          as_aux_lemma =>
            clear HT hV4 hV' hVm cS hM'
            obtain ⟨y, f, col5, q5, W5, rfl, rfl, rfl, rfl, hW5, T5⟩ := hcut
            subst hW5
            go_wp2_with fail
            refine (HP.count T5.pr T5.tidy z hz).mono ?_
            rintro e w6 ⟨rfl, b6⟩
            have T6 := T5.below HP b6
            clear T5 b6
            go_wp2_with fail
            refine (rrCount T6.rr z hz).mono ?_
            rintro e w7 ⟨rfl, hw7⟩
            subst hw7
            go_wp2_with fail
            refine (HP.least T6.pr T6.tidy).mono ?_
            rintro e w8 ⟨rfl, b8⟩
            have T8 := T6.below HP b8
            clear T6 b8
            go_wp2_with fail
            refine (rrLeast T8.rr).mono ?_
            rintro e w9 ⟨rfl, j9, hj9⟩
            have b9 : Below w8.heap.size w8 w9 := by rw [hj9]; exact below_drewN (Below.refl _ _) j9
            have T9 := T8.below HP b9
            clear T8 b9 hj9
            obtain ⟨A1, c1, x1, R1⟩ := T9.rr.openI
            obtain ⟨LQ, hLQ⟩ : ∃ LQ, q5.l.length = LQ := ⟨_, rfl⟩
            have HLQ := Lib.hid hLQ
            rw [hLQ] at x1 R1
            clear hLQ
            generalize (q5.countR z).1 = k1 at *
            generalize (q5.countR z).2 = k2 at *
            generalize q5.leastR.1.1 = k3 at *
            generalize q5.leastR.1.2 = k4 at *
            generalize q5.leastR.2 = k5 at *
            have hcp1 := R1.cap
            have hmx1 := R1.max
            have e0 : (y != y) = false := by simp
            have e1 : (f != f) = false := by simp
            have e2 : (k1 != k1) = false := by simp
            have e3 : (k2 != k2) = false := by simp
            have e4 : (k3 != k3) = false := by simp
            have e5 : (k4 != k4) = false := by simp
            have e6 : (k5 != k5) = false := by simp
            have hll : ((LQ : Int) != (LQ : Int)) = false := by simp
            have hOr := Lib.hid (T9.order HP HLQ.out)
            have hLn := Lib.hid (fun (W : World) (hb : Below w9.heap.size w9 W) => HP.len (T9.below HP hb).pr (T9.below HP hb).tidy)
            have HT9 := Lib.hid T9
            have HR1 := Lib.hid R1
            clear T9 R1
            go_wp2_with fail
            go_region_held3 (fun W => W.cell? ⟨gq, 1, none⟩ = some (.slice A1 LQ c1) ∧ Below w9.heap.size w9 W) (first | exact cellB x1 d12 | exact cellB x1 d11 | exact cellB x1 d10 | exact cellB x1 (bdM _)) (first
              | (go_at_call 16; refine (hOr.out _ (bdM _)).mono ?_; rintro e w10 ⟨A6, c6, rfl, R6, d10⟩; have R62 := HR1.out.below d10)
              | (go_at_call 24; refine (sameInts_isR R6 R62 d10).mono ?_; rintro e w11 ⟨rfl, d11⟩; clear R6 R62)
              | (go_at_call 15; refine (hLn.out _ d11).mono ?_; rintro e w12 ⟨rfl, b12⟩; rw [HLQ.out]; have d12 := below_then d11 b12))
            all_goals
              have T14 := HT9.out.below HP d12
              clear HT9 HR1 hOr hLn x1
              go_wp2
              go_roundw
              case rel => exact ⟨i + 1, _, _, by omega, by omega, by go_num, T14⟩
              case measure => (simp [intOf] <;> omega)
    · as_aux_lemma =>
        have hE := Lib.hid T.since
        have hcs : ¬ (i : Int) < (p : Int) ∨ ((i : Int) < (p : Int) ∧ ¬ (i : Int) < 80) := by omega
        clear T hB hend
        rcases hcs with hpi | ⟨hpi, h6i⟩
        all_goals
          go_wp2_with fail
          refine (rawake_any HP _ (hE.out.tab hTab)).mono ?_
          rintro e w9 ⟨rfl, b9⟩
          have hb := (hE.out.belowL b9).below
          clear hE b9
          go_wp2
          go_ret
          exact ⟨rfl, hb⟩
end Go.Proofs.YtopjnalehllgcaaDoor
