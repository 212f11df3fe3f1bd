/- The statements about package chain: ChainSteps. Conditions: the program's lists keep their contracts (ProgLi). -/
import Derived.Test.YtfbddcbbkfklnaaDoorCwalk
import Derived.Deep.CutBlock
namespace Go.Proofs.YtfbddcbbkfklnaaDoor
open Go.ChangeShapes Go.WideShapes Go.ChangeAt Go.RowKit
set_option linter.unusedVariables false
set_option linter.unusedSimpArgs false
set_option maxRecDepth 100000

/-- The program's list, the specified one. -/
structure PairC (PL : RepL Int) (w : World) (g gq : Nat) (col : Col) (q r : CSt Int) (W : World) : Prop where
  since : Since w col W
  pl : PL col 16 W g q
  rl : RefD col 32 W gq r
section
variable {PL : RepL Int} {w W W' : World} {col col' : Col} {g gq : Nat} {P : Nat → Prop} {q q' r r' : CSt Int}
theorem PairC.tidy (h : PairC PL w g gq col q r W) : Tidy col W := h.since.tidy
theorem PairC.below (HP : ProgL0 PL) (h : PairC PL w g gq col q r W) (hb : Below W.heap.size W W') : PairC PL w g gq col q r W' := ⟨h.since.belowL hb, HP.below h.pl h.tidy hb, h.rl.below h.tidy hb⟩
theorem PairC.did1 (h : PairC PL w g gq col q r W) (hd : DidPL PL col 16 W g q' W') : ∃ col', PairC PL w g gq col' q' r W' := by
  obtain ⟨col', h1, s⟩ := hd
  exact ⟨col', h.since.step s (rng0 (by omega)), h1, h.rl.keep s (rngs_no (by omega))⟩
theorem PairC.did2 (HP : ProgL0 PL) (h : PairC PL w g gq col q r W) (hd : DidRD col 32 W gq r' W') : ∃ col', PairC PL w g gq col' q r' W' := by
  obtain ⟨col', h1, s⟩ := hd
  exact ⟨col', h.since.step s (rng0 (by omega)), HP.keep h.pl s (rngs_no (by omega)) (rng0 (by omega)), h1⟩
/-- The fields of the specified list. -/
theorem RefD.open {k : Nat} (h : RefD col k W g q) : ∃ A c A' c', W.cell? ⟨g, 1, none⟩ = some (.slice A q.l.length c) ∧ W.cell? ⟨g, 2, none⟩ = some (.slice A' q.l.length c') ∧ RdG kI W A q.l.length c q.ns ∧ RdG kI W A' q.l.length c' q.vals ∧ q.l.length ≤ 8192 := by
  obtain ⟨hG, vN, vV, H⟩ := h
  have h1 := hG.len
  have h2 := hG.n8
  obtain ⟨A, c, rfl, R1, _⟩ := H.ns.own.form (ns_len q)
  obtain ⟨A', c', rfl, R2, _⟩ := H.vs.own.form (vs_len q)
  exact ⟨A, c, A', c', H.box.cell 1 rfl, H.box.cell 2 rfl, R1, R2, by omega⟩
end
theorem sameInts_is {W0 W : World} {A A' : Option Addr} {n c c' : Nat} {l : List Int} (h : RdG kI W A n c l) (h' : RdG kI W A' n c' l) (hb : Below W0.heap.size W0 W) :
    Calls Tryd.prog 30 #[.slice A n c, .slice A' n c'] W fun e w' => e = .returned (.bool true) ∧ Below W0.heap.size W0 w' :=
  (sameInts_any A A' n n c c' l l W h h').mono fun e w' ⟨he, j, hj⟩ => ⟨by rw [he, decide_eq_true rfl], by rw [hj]; exact below_drewN hb j⟩
theorem first_nil {q : CSt Int} (h : q.l.length = 0) : q.first = -1 ∧ q.last = -1 := ⟨by rw [first_at, atC_end (by omega)], by rw [last_at, h]; rfl⟩
theorem ns_at {q : CSt Int} {i : Nat} {z : Int} (h : q.ns[i]? = some z) : atC q i = z := by
  unfold CSt.ns at h
  rw [List.getElem?_map] at h
  cases hp : q.l[i]? with
  | none => rw [hp] at h; cases h
  | some p => rw [hp] at h; injection h with h; rw [atC_some hp]; exact h
theorem three {W0 W : World} {a b c : Addr} {u v x : Value} (h1 : W0.cell? a = some u) (h2 : W0.cell? b = some v) (h3 : W0.cell? c = some x) (hB : Below W0.heap.size W0 W) : W.cell? a = some u ∧ W.cell? b = some v ∧ W.cell? c = some x ∧ Below W0.heap.size W0 W := ⟨(cellB h1 hB).1, (cellB h2 hB).1, (cellB h3 hB).1, hB⟩
/-- What a round asks of both lists, in whatever world that has only grown. -/
structure AskC (W0 : World) (g gq : Nat) (q : CSt Int) (z : Int) : Prop where
  vals : ∀ W, Below W0.heap.size W0 W → Calls Tryd.prog 31 #[.pointer (some ⟨g, 0, none⟩)] W fun e w' => ∃ A c, e = .returned (.slice A q.l.length c) ∧ RdG kI w' A q.l.length c q.vals ∧ Below W0.heap.size W0 w'
  len : ∀ W, Below W0.heap.size W0 W → Calls Tryd.prog 32 #[.pointer (some ⟨g, 0, none⟩)] W fun e w' => e = .returned (.int .i64 q.l.length) ∧ Below W0.heap.size W0 w'
  next : ∀ W, Below W0.heap.size W0 W → Calls Tryd.prog 33 #[.pointer (some ⟨g, 0, none⟩), .int .i64 z] W fun e w' => e = .returned (.int .i64 (q.by_ z 1)) ∧ Below W0.heap.size W0 w'
  by1 : ∀ W, Below W0.heap.size W0 W → Calls Tryd.prog 34 #[.pointer (some ⟨gq, 0, none⟩), .int .i64 z, .int .i64 1] W fun e w' => e = .returned (.int .i64 (q.by_ z 1)) ∧ Below W0.heap.size W0 w'
  prev : ∀ W, Below W0.heap.size W0 W → Calls Tryd.prog 35 #[.pointer (some ⟨g, 0, none⟩), .int .i64 z] W fun e w' => e = .returned (.int .i64 (q.by_ z (-1))) ∧ Below W0.heap.size W0 w'
  by2 : ∀ W, Below W0.heap.size W0 W → Calls Tryd.prog 34 #[.pointer (some ⟨gq, 0, none⟩), .int .i64 z, .int .i64 (-1)] W fun e w' => e = .returned (.int .i64 (q.by_ z (-1))) ∧ Below W0.heap.size W0 w'
theorem PairC.ask {PL : RepL Int} (HP : ProgLi PL) {w W : World} {g gq : Nat} {col : Col} {q : CSt Int} {z : Int} (T : PairC PL w g gq col q q W) (hz : J64 z) : AskC W g gq q z where
  vals := fun W' hb => (HP.all.vals (T.below HP.all hb).pl (T.below HP.all hb).tidy).mono fun e w' ⟨A, n, c, hn, he, hR, _, hB⟩ => by
    have : q.l.length = n := by rw [← hn]; exact (vs_len q).symm
    subst this
    exact ⟨A, c, he, hR, below_then hb hB⟩
  len := fun W' hb => (HP.len (T.below HP.all hb).pl (T.below HP.all hb).tidy).mono fun e w' ⟨he, hB⟩ => ⟨he, below_then hb hB⟩
  next := fun W' hb => (HP.next (T.below HP.all hb).pl (T.below HP.all hb).tidy z hz).mono fun e w' ⟨he, hB⟩ => ⟨he, below_then hb hB⟩
  by1 := fun W' hb => (rdBy (T.below HP.all hb).rl z 1 hz (by omega)).mono fun e w' ⟨he, hB⟩ => ⟨he, hB ▸ hb⟩
  prev := fun W' hb => (HP.prev (T.below HP.all hb).pl (T.below HP.all hb).tidy z hz).mono fun e w' ⟨he, hB⟩ => ⟨he, below_then hb hB⟩
  by2 := fun W' hb => (rdBy (T.below HP.all hb).rl z (-1) hz (by omega)).mono fun e w' ⟨he, hB⟩ => ⟨he, hB ▸ hb⟩
theorem PairC.ends {PL : RepL Int} (HP : ProgLi PL) {w W : World} {g gq : Nat} {col : Col} {q : CSt Int} (T : PairC PL w g gq col q q W) :
    (∀ n, Calls Tryd.prog 36 #[.pointer (some ⟨g, 0, none⟩)] (W.drewN n) fun e w' => e = .returned (.int .i64 q.first) ∧ ∃ m, w' = W.drewN m) ∧ ∀ n, Calls Tryd.prog 37 #[.pointer (some ⟨g, 0, none⟩)] (W.drewN n) fun e w' => e = .returned (.int .i64 q.last) ∧ ∃ m, w' = W.drewN m :=
  ⟨fun n => (HP.first (T.below HP.all (below_drewN (Below.refl _ _) n)).pl (T.below HP.all (below_drewN (Below.refl _ _) n)).tidy).mono fun e w' ⟨he, j, hj⟩ => ⟨he, n + j, by rw [hj, World.drewN_drewN]⟩,
    fun n => (HP.last (T.below HP.all (below_drewN (Below.refl _ _) n)).pl (T.below HP.all (below_drewN (Below.refl _ _) n)).tidy).mono fun e w' ⟨he, j, hj⟩ => ⟨he, n + j, by rw [hj, World.drewN_drewN]⟩⟩
set_option maxHeartbeats 16000000 in
theorem chainSteps_walk {PL : RepL Int} (HP : ProgLi PL) (n : Int) (B : Option Addr) (p c : Nat) (raw : Int) (w : World) (n0 : 0 ≤ n) (n1 : n ≤ 255) (hB : RdI w B p c) (r0 : -9223372036854775808 ≤ raw) (r1 : raw ≤ 9223372036854775807) (hTab : Tab w) :
    Calls Tryd.prog 4 #[.int .u8 n, .slice B p c, .int .i64 raw] w (Yes w) := by
  have hcapB := hB.1
  have hmaxB := hB.2.1
  simp only [maxLen] at hmaxB
  have hS0 := Since.start w
  obtain ⟨a, rfl⟩ : ∃ a : Nat, n = (a : Int) := ⟨n.toNat, by omega⟩
  have hw0 : IntKind.i64.wrap (a : Int) = (a : Int) := by rw [IntKind.wrap_i64]; omega
  obtain ⟨r, hr⟩ : ∃ r : Nat, (a : Int).tmod 12 = (r : Int) := ⟨((a : Int).tmod 12).toNat, by rw [Int.tmod_eq_emod_of_nonneg (by omega)]; omega⟩
  have hr20 : r < 12 := by rw [Int.tmod_eq_emod_of_nonneg (by omega)] at hr; omega
  have hr2 : (a : Int) % 12 = (r : Int) := by rw [Int.tmod_eq_emod_of_nonneg (by omega)] at hr; exact hr
  obtain ⟨N, hN⟩ : ∃ N : Nat, 1 + r = N := ⟨_, rfl⟩
  have hw1 : IntKind.i64.wrap (1 + (r : Int)) = (N : Int) := by rw [IntKind.wrap_i64]; omega
  have hwr : IntKind.i64.wrap (r : Int) = (r : Int) := by rw [IntKind.wrap_i64]; omega
  have hnew := HP.all.new (k := 16) hS0.tidy (hS0.tb hTab) (by omega) (N : Int) (by unfold J64; omega)
  have hJN : J64 (N : Int) := by unfold J64; omega
  have hE : lstE (N : Int) = 0 := if_neg (by omega)
  have hraw : J64 raw := ⟨r0, r1⟩
  clear hN
  go_enter Tryd.func4, Tryd.ntmps4
  go_wp2_with fail
  refine hnew.mono ?_
  rintro e w4 (⟨_, g, rfl, hd⟩ | ⟨h0, _⟩)
  rotate_left
  · rw [hE] at h0; cases h0
  obtain ⟨col4, p4, s4⟩ := hd
  have A4 : AtL PL w col4 w4 16 g (newC Int N) := ⟨hS0.step s4 (rng0 (by omega)), p4⟩
  clear s4 p4 hS0 hnew
  go_wp2_with fail
  refine (rdNew (k := 32) A4.tidy (by omega) (N : Int) hJN).mono ?_
  rintro e w5 (⟨_, gq, rfl, col5, p5, s5⟩ | ⟨h0, _⟩)
  rotate_left
  · rw [hE] at h0; cases h0
  have T5 : PairC PL w g gq col5 (newC Int N) (newC Int N) w5 := ⟨A4.since.step s5 (rng0 (by omega)), HP.all.keep A4.pl s5 (rngs_no (by omega)) (rng0 (by omega)), p5⟩
  clear A4 s5 p5 hw1 hw0 hr hr2 hwr hE hJN
  go_wp2
  go_loopw [11] (fun iv wr => ∃ (i : Nat) (col : Col) (q : CSt Int), i ≤ p ∧ i ≤ 60 ∧ iv = .int .i64 i ∧ PairC PL w g gq col q q wr) (fun iv _ => p - (intOf iv).toNat)
  case atStart => exact ⟨0, _, _, Nat.zero_le _, Nat.zero_le _, rfl, T5⟩
  case round =>
    clear T5
    obtain ⟨i, col, q, hip, hi60, rfl, T⟩ := hrel
    by_cases hend : i < p ∧ i < 60
    · have hpi : (i : Int) < (p : Int) := by omega
      have h6i : (i : Int) < 60 := by omega
      obtain ⟨bB, oB, s, rfl, cS, hs0, hs1⟩ := (hB.below T.since.below).2.2 i hend.1
      obtain ⟨V, hVm, hV⟩ := mask_any s 7 (by omega)
      have hV' : bits .and .i64 s 7 = (V : Int) := hV
      obtain ⟨M, hMm, hM⟩ := mask_any (s / 8) 15 (by omega)
      have hM' : bits .and .i64 (s / 8) 15 = (M : Int) := hM
      obtain ⟨X, hXm, hX⟩ := mask_any (s / 128) 15 (by omega)
      have hX' : bits .and .i64 (s / 128) 15 = (X : Int) := hX
      clear hM hV hX hB
      have hJs : J64 s := ⟨hs0, hs1⟩
      have hJM : J64 (M : Int) := by unfold J64; omega
      have HT := Lib.hid T
      clear T
      go_upto_if 65 with fail
      go_cut [13] from 45 to 237 (fun vk wx => ∃ z : Int, J64 z ∧ vk = .int .i64 z ∧ wx = wr)
      case first =>
        by_cases hX0 : X = 0
        · subst hX0
          go_wp2_with fail
          go_meet
          exact ⟨raw, hraw, rfl, rfl⟩
        · have g0 : ((X : Int) == 0) = false := by rw [beq_eq_false_iff_ne]; omega
          go_wp2_with fail
          go_meet
          exact ⟨(M : Int), hJM, rfl, rfl⟩
      case rest =>
        clear hX' hXm
        obtain ⟨z, hz, rfl, rfl⟩ := hcut
        have hV4 : V = 0 ∨ V = 1 ∨ V = 2 ∨ V = 3 ∨ V = 4 ∨ V = 5 ∨ V = 6 ∨ V = 7 := by omega
        go_upto_block 2 with fail
        go_cut [14, 15, 16, 17] from 45 to 237 (fun va vb vc vd wx => ∃ (x y : Int) (col' : Col) (q' : CSt Int) (W : World), va = .int .i64 x ∧ vb = .int .i64 x ∧ vc = .int .i64 y ∧ vd = .int .i64 y ∧ W = wx ∧ PairC PL w g gq col' q' q' W)
        case first =>
          clear cS
          rcases hV4 with rfl | rfl | rfl | rfl | rfl | rfl | rfl | rfl
          rotate_left 7
          · as_aux_lemma =>
              go_wp2_with fail
              refine (HP.val HT.out.pl HT.out.tidy z hz).mono ?_
              rintro e w3 ⟨rfl, hb3⟩
              have T3 := HT.out.below HP.all hb3
              go_wp2_with fail
              refine (rdValue T3.rl z hz).mono ?_
              rintro e w4 ⟨rfl, hw4⟩
              subst hw4
              generalize q.value 0 z = gv at *
              clear hb3 HT
              go_wp2_with fail
              go_meet
              exact ⟨gv.1, gv.2, _, _, _, rfl, rfl, rfl, rfl, rfl, T3⟩
          rotate_left 2
          · as_aux_lemma =>
              go_wp2_with fail
              refine (HP.pushF HT.out.pl HT.out.tidy s hJs).mono ?_
              rintro e w3 ⟨rfl, hd3⟩
              obtain ⟨col3, T3⟩ := HT.out.did1 hd3
              go_wp2_with fail
              refine (rdInsert T3.rl T3.tidy 0 (Nat.zero_le _) s hJs).mono ?_
              rintro e w4 ⟨rfl, hd4⟩
              obtain ⟨col4, T4⟩ := T3.did2 HP.all hd4
              clear T3 hd3 hd4 HT
              have e1 : q.pushF s = q.ins 0 s := rfl
              rw [e1] at T4 ⊢
              generalize q.ins 0 s = gv at *
              go_wp2_with fail
              go_meet
              exact ⟨gv.1.1, gv.1.2, _, _, _, rfl, rfl, rfl, rfl, rfl, T4⟩
          rotate_left 4
          iterate 2
            · as_aux_lemma =>
                go_wp2_with fail
                refine (HP.all.pushB HT.out.pl HT.out.tidy s hJs).mono ?_
                rintro e w3 ⟨rfl, hd3⟩
                obtain ⟨col3, T3⟩ := HT.out.did1 hd3
                obtain ⟨A1, c1, A2, c2, x1, x2, R1, R2, hl8⟩ := T3.rl.open
                have hcp1 := R1.cap
                have hmx1 := R1.max
                have hRI := Lib.hid (rdInsert T3.rl T3.tidy q.l.length (Nat.le_refl _) s hJs)
                have HT3 := Lib.hid T3
                have e1 : q.pushB s = q.ins q.l.length s := rfl
                rw [e1] at HT3 ⊢
                clear T3 hd3 x2 R1 R2
                generalize hLq : q.l.length = LQ at *
                clear hLq
                go_wp2_with fail
                refine hRI.out.mono ?_
                rintro e w4 ⟨rfl, hd4⟩
                obtain ⟨col4, T4⟩ := HT3.out.did2 HP.all hd4
                clear HT3 hd4 HT hRI
                generalize q.ins LQ s = gv at *
                go_wp2_with fail
                go_meet
                exact ⟨gv.1.1, gv.1.2, _, _, _, rfl, rfl, rfl, rfl, rfl, T4⟩
          iterate 2
            · as_aux_lemma =>
                go_wp2_with fail
                refine (HP.insA HT.out.pl HT.out.tidy z s hz hJs).mono ?_
                rintro e w3 ⟨rfl, hd3⟩
                obtain ⟨col3, T3⟩ := HT.out.did1 hd3
                go_wp2_with fail
                refine (rdInsertAfter T3.rl T3.tidy z hz s hJs).mono ?_
                rintro e w4 ⟨rfl, hd4⟩
                obtain ⟨col4, T4⟩ := T3.did2 HP.all hd4
                clear T3 hd3 hd4 HT
                generalize q.insA z s = gv at *
                go_wp2_with fail
                go_meet
                exact ⟨gv.1.1, gv.1.2, _, _, _, rfl, rfl, rfl, rfl, rfl, T4⟩
          iterate 2
            · as_aux_lemma =>
                go_wp2_with fail
                refine (HP.rem HT.out.pl HT.out.tidy z hz).mono ?_
                rintro e w3 ⟨rfl, hd3⟩
                obtain ⟨col3, T3⟩ := HT.out.did1 hd3
                go_wp2_with fail
                refine (rdRemove T3.rl T3.tidy z hz).mono ?_
                rintro e w4 ⟨rfl, hd4⟩
                obtain ⟨col4, T4⟩ := T3.did2 HP.all hd4
                clear T3 hd3 hd4 HT
                generalize q.value 0 z = gv at *
                generalize q.rem z = qq at *
                go_wp2_with fail
                go_meet
                exact ⟨gv.1, gv.2, _, _, _, rfl, rfl, rfl, rfl, rfl, T4⟩
        case rest =>
          as_aux_lemma =>
            clear HT hV4 hV' hVm cS hM'
            obtain ⟨x, y, col5, q5, W5, rfl, rfl, rfl, rfl, hW5, T5⟩ := hcut
            subst hW5
            have HA := Lib.hid (T5.ask HP hz)
            obtain ⟨A1, c1, A2, c2, x1, x2, R1, R2, hl8⟩ := T5.rl.open
            have HT5 := Lib.hid T5
            have hcp1 := R1.cap
            have hmx1 := R1.max
            have hcp2 := R2.cap
            have hmx2 := R2.max
            have hxx : (x != x) = false := by simp
            have hyy : (y != y) = false := by simp
            have HN1 := Lib.hid (ns_len q5)
            clear T5
            have hn1 : (q5.by_ z 1 != q5.by_ z 1) = false := by simp
            have hn2 : (q5.by_ z (-1) != q5.by_ z (-1)) = false := by simp
            obtain ⟨LQ, hLQ⟩ : ∃ LQ, q5.l.length = LQ := ⟨_, rfl⟩
            have HLQ := Lib.hid hLQ
            rw [hLQ] at x1 x2 R1 R2 hl8 hcp1 hcp2
            clear hLQ
            have hll : ((LQ : Int) != (LQ : Int)) = false := by simp
            have HR2 := Lib.hid R2
            have HR1 := Lib.hid R1
            clear R1 R2
            go_upto_if 192 with fail
            go_cut [192] from 45 to 191 (fun vv wx => ∃ W, vv = .bool false ∧ W = wx ∧ Below W5.heap.size W5 W)
            case first =>
              as_aux_lemma =>
                go_wp2_with fail
                go_region_held3 (fun W => W.cell? ⟨gq, 2, none⟩ = some (.slice A2 LQ c2) ∧ Below W5.heap.size W5 W) (first | exact cellB x2 b12 | exact cellB x2 b10 | exact cellB x2 b11 | exact cellB x2 b9 | exact cellB x2 b8 | exact cellB x2 b7 | exact cellB x2 b6 | exact cellB x2 (bdM _)) (first
                  | (go_at_call 31; refine (HA.out.vals _ (bdM _)).mono ?_; rintro e w6 ⟨A6, c6, rfl, R6, b6⟩; rw [HLQ.out] at R6 ⊢; have R62 := HR2.out.below b6)
                  | (go_at_call 30; refine (sameInts_is R6 R62 b6).mono ?_; rintro e w7 ⟨rfl, b7⟩; clear R6 R62)
                  | (go_at_call 32; refine (HA.out.len _ b7).mono ?_; rintro e w8 ⟨rfl, b8⟩; rw [HLQ.out])
                  | (go_at_call 33; refine (HA.out.next _ b8).mono ?_; rintro e w9 ⟨rfl, b9⟩)
                  | (go_at_call 35; refine (HA.out.prev _ b11).mono ?_; rintro e w10 ⟨rfl, b10⟩)
                  | (go_at_call 34; refine (HA.out.by2 _ b10).mono ?_; rintro e w12 ⟨rfl, b12⟩)
                  | (go_at_call 34; refine (HA.out.by1 _ b9).mono ?_; rintro e w11 ⟨rfl, b11⟩))
                all_goals
                  go_wp2_with fail
                  go_meet
                  exact ⟨_, rfl, rfl, b12⟩
            case rest =>
              obtain ⟨w12, rfl, hw12, b12⟩ := hcut
              subst hw12
              have z1 := (cellB x1 b12).1
              have T12 := HT5.out.below HP.all b12
              obtain ⟨hF, hLa⟩ := T12.ends HP
              have HT12 := Lib.hid T12
              have HR12 := Lib.hid (HR1.out.below b12)
              clear x2 hn1 hn2 hxx hyy hll T12 HT5 HA HR1 HR2 x1 b12
              by_cases hk : LQ = 0
              · as_aux_lemma =>
                  have hf := first_nil (HLQ.out.trans hk)
                  rw [hf.1] at hF
                  rw [hf.2] at hLa
                  have HF := Lib.hid hF
                  have HL := Lib.hid hLa
                  clear hf hF hLa
                  subst hk
                  go_wp2_with fail
                  go_quiet (first | (go_at_call 36; exact HF.out _) | (go_at_call 37; exact HL.out _))
                  have T14 := HT12.out.below HP.all (below_drewN (Below.refl _ _) nq)
                  clear HF HL z1
                  go_wp2
                  go_roundw
                  case rel => exact ⟨i + 1, _, _, by omega, by omega, by go_num, T14⟩
                  case measure => (simp [intOf] <;> omega)
              · as_aux_lemma =>
                  obtain ⟨K, hK⟩ : ∃ K, LQ = K + 1 := ⟨LQ - 1, by omega⟩
                  obtain ⟨bN, oN, n0, hA1, g0, _, _, d0⟩ := HR12.out.atI (j := 0) (by omega)
                  obtain ⟨bN', oN', nk, hA1', gk, _, _, dk⟩ := HR12.out.atI (j := K) (by omega)
                  rw [hA1] at hA1'
                  injection hA1' with hA1'
                  injection hA1' with e1 e2
                  subst e1 e2
                  subst hA1
                  have hfst : q5.first = n0 := by rw [first_at, ns_at g0]
                  have hlst : q5.last = nk := by rw [last_at, HLQ.out, hK]; exact ns_at gk
                  rw [hfst] at hF
                  rw [hlst] at hLa
                  rw [Nat.add_zero] at d0
                  have HF := Lib.hid hF
                  have HL := Lib.hid hLa
                  have hkI : ((LQ : Int) == 0) = false := beq_false_of_ne (by omega)
                  have hk0 : (0 : Int) < (LQ : Int) := by omega
                  have hk0' : 0 < LQ := by omega
                  have hKw : IntKind.i64.wrap ((LQ : Int) - 1) = (K : Int) := by rw [IntKind.wrap_i64]; omega
                  have hKl : (K : Int) < (LQ : Int) := by omega
                  have hne0 : (n0 != n0) = false := by simp
                  have hnek : (nk != nk) = false := by simp
                  clear hfst hlst g0 gk hK hk hF hLa
                  go_wp2_with fail
                  go_quiet (first | (go_at_call 36; exact HF.out _) | (go_at_call 37; exact HL.out _))
                  have T14 := HT12.out.below HP.all (below_drewN (Below.refl _ _) nq)
                  clear HF HL z1 d0 dk
                  go_wp2
                  go_roundw
                  case rel => exact ⟨i + 1, _, _, by omega, by omega, by go_num, T14⟩
                  case measure => (simp [intOf] <;> omega)
    · as_aux_lemma =>
        have hE := Lib.hid T.since
        have hcs : ¬ (i : Int) < (p : Int) ∨ ((i : Int) < (p : Int) ∧ ¬ (i : Int) < 60) := by omega
        clear T hB hend
        rcases hcs with hpi | ⟨hpi, h6i⟩
        all_goals
          go_wp2_with fail
          refine (cawake_any HP _ (hE.out.tab hTab)).mono ?_
          rintro e w9 ⟨rfl, b9⟩
          have hb := (hE.out.belowL b9).below
          clear hE b9
          go_wp2
          go_ret
          exact ⟨rfl, hb⟩
end Go.Proofs.YtfbddcbbkfklnaaDoor
