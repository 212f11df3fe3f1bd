/- The statements about package arena: ArenaStale. Conditions: the program's arena keeps its contracts (ProgA). -/
import Derived.Test.YtfcnmbahcdpcaaaJtwo
import Derived.Test.YtfcnmbahcdpcaaaJmore
namespace Go.Proofs.Ytfcnmbahcdpcaaa
open Go.ChangeShapes Go.WideShapes Go.ChangeAt Go.RowKit
set_option linter.unusedVariables false
set_option linter.unusedSimpArgs false
set_option maxRecDepth 100000

/-- One slot, in use; one slot, free. -/
def stU (L : List (Int × Int)) (c a fa t : Nat) : ASt := { L := L, s := [⟨c, 0, a, true, []⟩], f := [], nx := (List.replicate L.length 0).set c 1, fa := fa, t := t }
def stF (L : List (Int × Int)) (c a fa t : Nat) : ASt := { L := L, s := [⟨c, 0, a, false, []⟩], f := [0], nx := (List.replicate L.length 0).set c 1, fa := fa, t := t }
section
variable {L : List (Int × Int)} {c a fa t : Nat} {z : Int}
theorem take_none {x : ASt} (h : lastAt x.s x.f c x.f.length = none) : x.take c = if ((x.nx.getD c 0 : Nat) : Int) = (x.L.getD c (0, 0)).2 then (((0, 0, 0), 7), x.tick)
    else ((((c : Int), ((x.nx.getD c 0 : Nat) : Int), 1), 0), { x with s := x.s ++ [⟨c, x.nx.getD c 0, 1, true, []⟩], nx := x.nx.set c (x.nx.getD c 0 + 1), t := x.t + 1 }) := by
  unfold ASt.take; rw [h]
theorem st_first (h : fitP L z = some c) : (newA L).alloc z = (((0, 0, 0), 7), (newA L).tick) ∨ (newA L).alloc z = ((((c : Int), 0, 1), 0), stU L c 1 0 1) := by
  have hc := fit_lt h
  unfold ASt.alloc
  show (match fitP L z with | none => _ | some c => _) = _ ∨ (match fitP L z with | none => _ | some c => _) = _
  rw [h]
  have hn : (newA L).nx.getD c 0 = 0 := by show (List.replicate L.length 0).getD c 0 = 0; rw [List.getD_eq_getElem?_getD, List.getElem?_replicate, if_pos hc]; rfl
  show (newA L).take c = _ ∨ (newA L).take c = _
  rw [take_none rfl, hn]
  split
  · exact .inl rfl
  · exact .inr rfl
theorem st_none (h : fitP L z = none) : (newA L).alloc z = (((0, 0, 0), 1), (newA L).tick) := by
  unfold ASt.alloc
  show (match fitP L z with | none => _ | some c => _) = _
  rw [h]
theorem st_again (h : fitP L z = some c) : (stF L c a fa t).alloc z = ((((c : Int), 0, ((a + 1 : Nat) : Int)), 0), stU L c (a + 1) fa (t + 1)) := by
  unfold ASt.alloc
  show (match fitP L z with | none => _ | some c => _) = _
  rw [h]
  simp [ASt.take, stF, stU, lastAt, Sl.again, Sl.h]
theorem st_free : (stU L c a fa t).free ((c : Int), 0, (a : Int)) = (0, stF L c a fa (t + 1)) := by
  simp [ASt.free, ASt.find, stU, stF, Sl.h, List.findIdx?_cons]
theorem st_fault (h : a ≠ 1) : (stU L c a fa t).free ((c : Int), 0, 1) = (9, stU L c a (fa + 1) (t + 1)) := by
  have h' : ¬ (a : Int) = 1 := by omega
  simp [ASt.free, ASt.find, stU, Sl.h, List.findIdx?_cons, h', ASt.fault]
theorem st_read (h : Hd) : (stF L c a fa t).read h = (([], 9), stF L c a (fa + 1) (t + 1)) := by
  simp [ASt.read, ASt.find, stF, List.findIdx?_cons, ASt.fault]
theorem st_write (h : Hd) (b : List Int) : (stF L c a fa t).write h b = (9, stF L c a (fa + 1) (t + 1)) := by
  simp [ASt.write, ASt.find, stF, List.findIdx?_cons, ASt.fault]
end
set_option maxHeartbeats 2000000 in
theorem arenaStale_walk {PA : Rep} (HP : ProgA PA) (A : Option Addr) (m d : Nat) (n size : Int) (w : World) (hA : RdI w A m d) (h0 : 0 ≤ n) (h1 : n ≤ 255) (h2 : 0 ≤ size) (h3 : size ≤ 255) :
    Calls Try.prog 6 #[.slice A m d, .int .u8 n, .int .u8 size] w (Yes w) := by
  obtain ⟨N, hN, hN20⟩ := modN n 20 (by omega) h0
  obtain ⟨M, hM, hM40⟩ := modN size 40 (by omega) h2
  have hN' : n.tmod 20 = (N : Int) := hN
  have hM' : size.tmod 40 = (M : Int) := hM
  clear hN hM
  go_enter Try.func6, Try.ntmps6
  go_wp2_with fail
  refine (new_any _ _ _ _).mono ?_
  rintro e w1 ⟨rfl, rfl⟩
  have hD := Dk.new hA
  go_wp2_with fail
  refine (two_any HP hD).mono ?_
  rintro e w2 ⟨L, ga, gb, col2, rfl, hMd, A2, _⟩
  have hMk := hMd.ok
  clear hD hA
  have hz64 : I64 (1 + (M : Int)) := by simp only [I64]; omega
  go_wp2_with fail
  refine (HP.alloc A2.pa A2.tidy (by simp [newA]) (1 + (M : Int)) hz64).mono ?_
  rintro e w3 ⟨rfl, hd⟩
  obtain ⟨col3, A3, _⟩ := A2.did (by omega) hd
  clear A2 hd
  cases hfit : fitP L (1 + (M : Int)) with
  | none =>
    rw [st_none hfit] at A3 ⊢
    obtain ⟨A3, B3⟩ := A3.lit HP #[.int .i64 0, .int .i64 0, .int .i64 0] 40
    have hb := A3.since.below
    clear hfit A3 B3
    go_wp2_with fail
    refine (awake_any HP _).mono ?_
    rintro e w4 ⟨rfl, hb4⟩
    go_wp2
    go_ret
    exact ⟨rfl, hb.trans (hb4.mono hb.size)⟩
  | some c =>
    rcases st_first hfit with h | h
    · rw [h] at A3 ⊢
      obtain ⟨A3, B3⟩ := A3.lit HP #[.int .i64 0, .int .i64 0, .int .i64 0] 40
      have hb := A3.since.below
      clear hfit A3 B3 h
      go_wp2_with fail
      refine (awake_any HP _).mono ?_
      rintro e w4 ⟨rfl, hb4⟩
      go_wp2
      go_ret
      exact ⟨rfl, hb.trans (hb4.mono hb.size)⟩
    · rw [h] at A3 ⊢
      have hc := fit_lt hfit
      have hc4 := hMd.n4
      obtain ⟨A3, B3⟩ := A3.lit HP #[.int .i64 (c : Int), .int .i64 0, .int .i64 1] 40
      have e0 : (w3.alloc (.cells #[.int .i64 (c : Int), .int .i64 0, .int .i64 1] 40)).cell? ⟨w3.heap.size, 0, none⟩ = some (.int .i64 (c : Int)) := B3.cell 0 rfl
      have e1 : (w3.alloc (.cells #[.int .i64 (c : Int), .int .i64 0, .int .i64 1] 40)).cell? ⟨w3.heap.size, 1, none⟩ = some (.int .i64 0) := B3.cell 1 rfl
      have e2 : (w3.alloc (.cells #[.int .i64 (c : Int), .int .i64 0, .int .i64 1] 40)).cell? ⟨w3.heap.size, 2, none⟩ = some (.int .i64 1) := B3.cell 2 rfl
      have HFT := Lib.hid hfit
      have hh64 : Hd64 ((c : Int), 0, 1) := by simp only [Hd64, I64]; omega
      clear h hfit hMd hMk
      go_wp2_with fail
      refine (HP.free A3.pa A3.tidy (by simp [stU]) ((c : Int), 0, 1) hh64).mono ?_
      rintro e w4 ⟨rfl, hd⟩
      have hf1 := st_free (L := L) (c := c) (a := 1) (fa := 0) (t := 1)
      rw [show ((1 : Nat) : Int) = 1 from rfl] at hf1
      rw [hf1] at hd ⊢
      obtain ⟨col4, A4, s4⟩ := A3.did (by omega) hd
      have B4 := B3.keep s4 (rng0 (by omega))
      generalize w3.heap.size = bH at *
      clear A3 B3 e0 e1 e2 hd s4 hf1
      go_wp2
      go_loopw [12] (fun i wr => ∃ (i' t : Nat) (col : Col), i' ≤ N ∧ i = .int .i64 i' ∧ t ≤ 2 + 3 * i' ∧ AtP PA w col wr 16 ga (stF L c (i' + 1) i' t) ∧ BoxC col wr bH 0 #[.int .i64 (c : Int), .int .i64 0, .int .i64 1] 40) (fun i _ => N - (intOf i).toNat)
      case atStart => exact ⟨0, 2, col4, Nat.zero_le _, rfl, Nat.le_refl _, A4, B4⟩
      case round =>
        clear A4 B4
        obtain ⟨i', t, col, hi, rfl, ht, AA, B⟩ := hrel
        by_cases hlt : i' < N
        · obtain ⟨a, ha⟩ : ∃ a, a = i' + 1 + 1 := ⟨_, rfl⟩
          have hag := st_again (L := L) (c := c) (a := i' + 1) (fa := i') (t := t) HFT.out
          rw [← ha] at hag
          have hlti : (i' : Int) < (N : Int) := by omega
          have ha1 : a ≠ 1 := by omega
          have hab : (a : Int) ≤ 1000 := by omega
          have hQ := fun w => eqIn_h (c : Int) 0 (a : Int) (c : Int) 0 1 w
          rw [decide_eq_false (by intro e; injection e with _ e; injection e with _ e; omega)] at hQ
          have HA := Lib.hid ha
          clear ha
          go_wp2_with fail
          refine (HP.alloc AA.pa AA.tidy (by simp only [stF]; omega) (1 + (M : Int)) hz64).mono ?_
          rintro e w5 ⟨rfl, hd⟩
          rw [hag] at hd ⊢
          obtain ⟨col5, A5, s5⟩ := AA.did (by omega) hd
          have b5 : Below w5.heap.size w5 (w5.alloc (.cells #[.int .i64 (c : Int), .int .i64 0, .int .i64 (a : Int)] 40)) := (Below.refl _ _).alloc (Nat.le_refl _) _
          have B5 := (B.keep s5 (rng0 (by omega))).below A5.tidy b5
          obtain ⟨A5, X5⟩ := A5.lit HP #[.int .i64 (c : Int), .int .i64 0, .int .i64 (a : Int)] 40
          have e0 : (w5.alloc (.cells #[.int .i64 (c : Int), .int .i64 0, .int .i64 (a : Int)] 40)).cell? ⟨bH, 0, none⟩ = some (.int .i64 (c : Int)) := B5.cell 0 rfl
          have e1 : (w5.alloc (.cells #[.int .i64 (c : Int), .int .i64 0, .int .i64 (a : Int)] 40)).cell? ⟨bH, 1, none⟩ = some (.int .i64 0) := B5.cell 1 rfl
          have e2 : (w5.alloc (.cells #[.int .i64 (c : Int), .int .i64 0, .int .i64 (a : Int)] 40)).cell? ⟨bH, 2, none⟩ = some (.int .i64 1) := B5.cell 2 rfl
          have d0 : (w5.alloc (.cells #[.int .i64 (c : Int), .int .i64 0, .int .i64 (a : Int)] 40)).cell? ⟨w5.heap.size, 0, none⟩ = some (.int .i64 (c : Int)) := X5.cell 0 rfl
          have d1 : (w5.alloc (.cells #[.int .i64 (c : Int), .int .i64 0, .int .i64 (a : Int)] 40)).cell? ⟨w5.heap.size, 1, none⟩ = some (.int .i64 0) := X5.cell 1 rfl
          have d2 : (w5.alloc (.cells #[.int .i64 (c : Int), .int .i64 0, .int .i64 (a : Int)] 40)).cell? ⟨w5.heap.size, 2, none⟩ = some (.int .i64 (a : Int)) := X5.cell 2 rfl
          clear AA B hd s5 b5 hag
          go_wp2_with fail
          refine (HP.free A5.pa A5.tidy (by simp only [stU]; omega) ((c : Int), 0, 1) hh64).mono ?_
          rintro e w6 ⟨rfl, hd⟩
          rw [st_fault ha1] at hd ⊢
          obtain ⟨col6, A6, s6⟩ := A5.did (by omega) hd
          have B6 := B5.keep s6 (rng0 (by omega))
          have X6 := X5.keep s6 (rng0 (by omega))
          have d0 : w6.cell? ⟨w5.heap.size, 0, none⟩ = some (.int .i64 (c : Int)) := X6.cell 0 rfl
          have d1 : w6.cell? ⟨w5.heap.size, 1, none⟩ = some (.int .i64 0) := X6.cell 1 rfl
          have d2 : w6.cell? ⟨w5.heap.size, 2, none⟩ = some (.int .i64 (a : Int)) := X6.cell 2 rfl
          clear A5 B5 X5 e0 e1 e2 hd s6
          go_wp2_with fail
          refine (HP.free A6.pa A6.tidy (by simp only [stU]; omega) ((c : Int), 0, (a : Int)) (by simp only [Hd64, I64]; omega)).mono ?_
          rintro e w7 ⟨rfl, hd⟩
          rw [st_free] at hd ⊢
          obtain ⟨col7, A7, s7⟩ := A6.did (by omega) hd
          have B7 := B6.keep s7 (rng0 (by omega))
          have HA7 := Lib.hid A7
          clear A6 A7 B6 X6 d0 d1 d2 hd s7
          go_wp2
          go_roundw
          case rel => exact ⟨i' + 1, t + 1 + 1 + 1, col7, by omega, by go_num, by omega, by have := HA7.out; rw [HA.out] at this; exact this, B7⟩
          case measure => (simp [intOf] <;> omega)
        · have hiN : i' = N := by omega
          subst hiN
          have e0 : wr.cell? ⟨bH, 0, none⟩ = some (.int .i64 (c : Int)) := B.cell 0 rfl
          have e1 : wr.cell? ⟨bH, 1, none⟩ = some (.int .i64 0) := B.cell 1 rfl
          have e2 : wr.cell? ⟨bH, 2, none⟩ = some (.int .i64 1) := B.cell 2 rfl
          go_wp2_with fail
          refine (HP.read AA.pa AA.tidy (by simp only [stF]; omega) ((c : Int), 0, 1) hh64).mono ?_
          rintro e w5 ⟨A5, n5, c5, rfl, col5, p5, s5, _⟩
          rw [st_read] at p5 ⊢
          obtain ⟨col5, A5', s5⟩ := AA.did (by omega) ⟨col5, p5, s5⟩
          have B5 := B.keep s5 (rng0 (by omega))
          clear AA B p5 s5 e0 e1 e2
          have e0 : w5.cell? ⟨bH, 0, none⟩ = some (.int .i64 (c : Int)) := B5.cell 0 rfl
          have e1 : w5.cell? ⟨bH, 1, none⟩ = some (.int .i64 0) := B5.cell 1 rfl
          have e2 : w5.cell? ⟨bH, 2, none⟩ = some (.int .i64 1) := B5.cell 2 rfl
          go_wp2_with fail
          refine (HP.write A5'.pa A5'.tidy (by simp only [stF]; omega) ((c : Int), 0, 1) hh64 (b := []) (c0 := 0) (rng0 (by omega)) ⟨Rd.nil _ _ _ (Nat.zero_le _), fun h => by omega⟩ (by omega)).mono ?_
          rintro e w6 ⟨rfl, hd⟩
          rw [st_write] at hd ⊢
          obtain ⟨col6, A6, s6⟩ := A5'.did (by omega) hd
          clear A5' B5 hd e0 e1 e2 s6
          go_wp2_with fail
          refine (HP.usage A6.pa A6.tidy (by simp only [stF]; omega)).mono ?_
          rintro e w7 ⟨A7, c7, rfl, _, hb7⟩
          rw [show ((stF L c (i' + 1) (i' + 1 + 1) (t + 1 + 1)).fa : Int) = (i' : Int) + 2 by simp only [stF]; omega]
          have hF2 := fun w => usage_faults A7 (stF L c (i' + 1) (i' + 1 + 1) (t + 1 + 1)).L.length c7 (bytesN (stF L c (i' + 1) (i' + 1 + 1) (t + 1 + 1)).L (stF L c (i' + 1) (i' + 1 + 1) (t + 1 + 1)).s) ((i' : Int) + 2) w
          have hb := A6.since.below.trans (hb7.mono A6.since.below.size)
          clear A6 hb7
          go_wp2_with fail
          refine (awake_any HP _).mono ?_
          rintro e w8 ⟨rfl, hb8⟩
          go_wp2
          go_ret
          exact ⟨rfl, hb.trans (hb8.mono hb.size)⟩
end Go.Proofs.Ytfcnmbahcdpcaaa
