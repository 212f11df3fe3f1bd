/- The program's lists of int values: has, join, least, Len, First, Last, Next, Prev, Value. Conditions: none beyond those typed. -/
import Derived.Test.YtfbddcbbkfklnaaDoorLibox
namespace Go.Proofs.YtfbddcbbkfklnaaDoor
open Go.ChangeShapes Go.WideShapes Go.ChangeAt Go.RowKit
set_option linter.unusedVariables false
set_option linter.unusedSimpArgs false
set_option maxRecDepth 100000

section
variable {P' : Nat → Prop} {col col' : Col} {w w' : World} {k g n u b N c nu cu : Nat} {Au : Option Addr} {P : List (Pn Int)} {U : List Nat} {i : Nat} {r : Pn Int} {m : CSt Int}
set_option maxHeartbeats 1000000 in
theorem lleasti_any (h : Lxi col k w g n u P b N c U Au nu cu) {ns : List Nat} (hbit : ∀ j, hasB U j = decide (j ∈ ns)) (hbig : ∀ u ∈ U, u < 18446744073709551616) (hlU : nu ≤ 128) :
    Calls Tryd.prog 51 #[.pointer (some ⟨g, 0, none⟩)] w fun e w' => e = .returned (.int .i64 (freeN ns : Int)) ∧ w = w' := by
  have x3 := h.c3
  have hU := h.lenU
  obtain ⟨hcp, hcm⟩ := h.capU
  have hTb := h.tab.tab
  obtain ⟨R, hR⟩ : ∃ R, freeN ns = R := ⟨_, rfl⟩
  rw [hR]
  go_enter Tryd.func51, Tryd.ntmps51
  go_wp2
  go_loopw [11] (fun iv wr => ∃ i : Nat, i ≤ nu ∧ iv = .int .i64 (i : Int) ∧ (∀ j, j < 64 * i → j ∈ ns) ∧ wr = w) (fun iv _ => nu - (intOf iv).toNat)
  case atStart => exact ⟨0, Nat.zero_le _, rfl, fun j hj => by omega, rfl⟩
  case round =>
    obtain ⟨i, hi, rfl, hall, hwr⟩ := hrel
    subst hwr
    by_cases hlt : i < nu
    · obtain ⟨bu, rfl, hc, _⟩ := h.word hlt
      have hxb := getD_lt hbig i
      obtain ⟨x, hx⟩ : ∃ x, U.getD i 0 = x := ⟨_, rfl⟩
      rw [hx] at hc hxb
      have hT := tz_any (18446744073709551615 - x) (by omega) wr hTb
      obtain ⟨y, hy⟩ : ∃ y, 18446744073709551615 - x = y := ⟨_, rfl⟩
      rw [hy] at hT
      have hiI : (i : Int) < (nu : Int) := by omega
      have hinv : bits .xor .u64 IntKind.u64.max (x : Int) = (y : Int) := by rw [inv_any hxb, hy]
      obtain ⟨f1, f2⟩ := free_word hbit hbig hall (i := i) (y := y) (by rw [hx]; exact hy)
      have hFb : Lib.ctz 64 y ≤ 64 := by
        rcases Nat.eq_zero_or_pos y with e | e
        · rw [e, ctz_zero]; omega
        · have := (ctz_bit (x := y) (by omega) (by omega)).1; omega
      generalize Lib.ctz 64 y = F at *
      clear hbit hbig hall hx hy
      go_wp2_with fail
      refine hT.mono ?_
      rintro e w1 ⟨rfl, hw⟩
      subst hw
      by_cases hF : F < 64
      · have hFI : (F : Int) < 64 := by omega
        have hw1 : IntKind.i64.wrap ((i : Int) * 64) = (((i * 64 : Nat)) : Int) := by rw [IntKind.wrap_i64]; omega
        have hw2 : IntKind.i64.wrap (((i * 64 : Nat) : Int) + (F : Int)) = (R : Int) := by rw [← hR, f1 hF, IntKind.wrap_i64]; omega
        have HR := Lib.hid (show (R : Int) = (i : Int) * 64 + (F : Int) by rw [← hR, f1 hF]; omega)
        clear f1 f2 hT hinv hR
        go_wp2
        go_ret
        rw [HR.out]
        exact ⟨rfl, rfl⟩
      · have hFI : ¬ (F : Int) < 64 := by omega
        have HA := Lib.hid (f2 hF)
        clear f1 f2 hT hinv
        go_wp2
        go_roundw
        case rel => exact ⟨i + 1, by omega, by go_num, HA.out, (by first | rfl | trivial)⟩
        case measure => (simp [intOf] <;> omega)
    · have hiI : ¬ (i : Int) < (nu : Int) := by omega
      have hR2 := free_end hbit (fun j hj => hall j (by omega))
      have hw1 : IntKind.i64.wrap ((nu : Int) * 64) = (R : Int) := by rw [← hR, hR2, hU, IntKind.wrap_i64]; omega
      clear hbit hall hR hR2
      go_wp2
      go_ret
      exact ⟨rfl, rfl⟩
set_option maxHeartbeats 1000000 in
theorem ljoini_any (h : Lxi col k w g n u P b N c U Au nu cu) (ht : Tidy col w) {a d : Int} (ha : -1 ≤ a) (hd : -1 ≤ d) (haN : (a + 1).toNat < N) (hdN : (d + 1).toNat < N) (hN : N ≤ 8193) :
    Calls Tryd.prog 47 #[.pointer (some ⟨g, 0, none⟩), .int .i64 a, .int .i64 d] w fun e w' => e = .returned (.tuple #[]) ∧ Lxi col k w' g n u (joinP P a d) b N c U Au nu cu ∧ StepC (Rng k) col w col w' := by
  have hl := h.len
  obtain ⟨A, hA⟩ : ∃ A, (a + 1).toNat = A := ⟨_, rfl⟩
  obtain ⟨D, hD⟩ : ∃ D, (d + 1).toNat = D := ⟨_, rfl⟩
  have hwA : IntKind.i64.wrap (a + 1) = (A : Int) := by rw [IntKind.wrap_i64]; omega
  have hwD : IntKind.i64.wrap (d + 1) = (D : Int) := by rw [IntKind.wrap_i64]; omega
  have hAI : (A : Int) < (N : Int) := by omega
  have hDI : (D : Int) < (N : Int) := by omega
  have hgA := List.getElem?_eq_getElem (show A < P.length by omega)
  obtain ⟨qa, hqa⟩ : ∃ q, P[A]? = some q := ⟨_, hgA⟩
  have x2 := h.c2
  obtain ⟨hcp, hcm⟩ := h.cap
  obtain ⟨_, y1, _, fz⟩ := h.at_ hqa
  obtain ⟨M1, s1⟩ := h.put ht hqa (j := 1) (v := .int .i64 d) (r' := (qa.1, d, qa.2.2)) (by omega) rfl
  have hp1 : P.set A (qa.1, d, qa.2.2) = joinN P a d := by unfold joinN; rw [hA, modN_set hqa]
  rw [hp1] at M1
  obtain ⟨qd, hqd⟩ : ∃ q, (joinN P a d)[D]? = some q := ⟨_, List.getElem?_eq_getElem (show D < (joinN P a d).length by unfold joinN; rw [List.length_modify]; omega)⟩
  have z2 := M1.c2
  obtain ⟨z0, _, _, fz1⟩ := M1.at_ hqd
  obtain ⟨M2, s2⟩ := M1.put s1.tidy hqd (j := 0) (v := .int .i64 a) (r' := (a, qd.2)) (by omega) rfl
  have hp2 : (joinN P a d).set D (a, qd.2) = joinP P a d := by unfold joinP; rw [hD, modN_set hqd]
  rw [hp2] at M2
  have f1 := fz (A * 3 + 1)
  have f2 := fz1 (D * 3)
  rw [Nat.add_zero] at M2 s2
  have hDn := Lib.hid (And.intro M2 ((s1.mono (P' := Rng k) (fun c e => ⟨by omega, by omega⟩)).trans (s2.mono (fun c e => ⟨by omega, by omega⟩))))
  clear h M1 M2 s1 s2 hp1 hp2 hqa hqd hgA hA hD fz fz1
  go_enter Tryd.func47, Tryd.ntmps47
  go_wp2
  go_end0
  exact ⟨rfl, hDn.out⟩
set_option maxHeartbeats 1000000 in
theorem lhasi_any (h : Lxi col k w g n u P b N c U Au nu cu) (R : Rp m P U) {z : Int} (hz : J64 z) :
    Calls Tryd.prog 46 #[.pointer (some ⟨g, 0, none⟩), .int .i64 z] w fun e w' => e = .returned (.bool (placeC m.l z).isSome) ∧ ∃ j, w' = w.drewN j := by
  have hl := h.len
  have hlU := h.lenU
  have x2 := h.c2
  have x3 := h.c3
  obtain ⟨hcp, hcm⟩ := h.cap
  obtain ⟨hcpU, hcmU⟩ := h.capU
  have hN1 := R.len1
  have hN8 := R.lenN
  have hn8 := R.good.n8
  have hroom := R.room
  have hU8 := R.lenU
  have hw1 : IntKind.i64.wrap ((N : Int) - 1) = (N : Int) - 1 := by rw [IntKind.wrap_i64]; omega
  obtain ⟨y, hy⟩ : ∃ y, (placeC m.l z).isSome = y := ⟨_, rfl⟩
  unfold J64 at hz
  rw [hy]
  by_cases h0 : 0 ≤ z
  rotate_left
  · rw [R.off (.inl (by omega))] at hy
    have hd : decide (z ≥ 0) = false := decide_eq_false (by omega)
    subst hy
    clear h R
    go_enter Tryd.func46, Tryd.ntmps46
    go_wp2
    go_quiet (fail)
    go_wp2
    go_ret
    exact ⟨rfl, _, rfl⟩
  have hd : decide (z ≥ 0) = true := decide_eq_true (by omega)
  by_cases h1 : z < (N : Int) - 1
  rotate_left
  · rw [R.off (.inr (by omega))] at hy
    have hd1 : decide (z < (N : Int) - 1) = false := decide_eq_false (by omega)
    subst hy
    clear h R
    go_enter Tryd.func46, Tryd.ntmps46
    go_wp2
    go_quiet (fail)
    go_wp2
    go_ret
    exact ⟨rfl, _, rfl⟩
  have hd1 : decide (z < (N : Int) - 1) = true := decide_eq_true (by omega)
  obtain ⟨q, rfl⟩ : ∃ q : Nat, z = (q : Int) := ⟨z.toNat, by omega⟩
  have hqU : q / 64 < nu := by omega
  obtain ⟨bu, rfl, hc, _⟩ := h.word hqU
  have hxb := getD_lt R.big (q / 64)
  have hBb := pow_lt64 (Nat.mod_lt q (show 0 < 64 by decide))
  have hpos : 0 < 2 ^ (q % 64) := Nat.pos_of_ne_zero (by simp)
  rw [← R.has] at hy
  have hand := bits_and_u64_nat (U.getD (q / 64) 0) (2 ^ (q % 64)) hxb hBb
  rw [and_pow] at hand
  have hb := fun W : World => (bit_any q (by omega) W).mono (R' := fun e w' => e = .returned (.int .u64 ((2 ^ (q % 64) : Nat) : Int)) ∧ w' = W) fun e w' h => ⟨h.1, h.2.symm⟩
  unfold hasB at hy
  rw [hy] at hand
  have hw2 : (q : Int).tdiv 64 = ((q / 64 : Nat) : Int) := by rw [Int.tdiv_eq_ediv_of_nonneg (by omega)]; omega
  have hw3 : IntKind.i64.wrap ((q / 64 : Nat) : Int) = ((q / 64 : Nat) : Int) := by rw [IntKind.wrap_i64]; omega
  have hiI : ((q / 64 : Nat) : Int) < (nu : Int) := by omega
  generalize U.getD (q / 64) 0 = x at *
  generalize q / 64 = i at *
  generalize 2 ^ (q % 64) = B at *
  clear R
  cases y
  · have hand2 : bits .and .u64 (x : Int) (B : Int) = 0 := by rw [hand]; simp
    clear hand h
    go_enter Tryd.func46, Tryd.ntmps46
    go_wp2
    go_quiet ((go_at_call 43; exact Calls.quiet_of_same (hb _)))
    go_wp2
    go_ret
    exact ⟨rfl, _, rfl⟩
  · have hand2 : bits .and .u64 (x : Int) (B : Int) = (B : Int) := by rw [hand]; simp
    have hBn : ((B : Int) == 0) = false := by simp; omega
    have hBn2 : ((B : Int) != 0) = true := by simp; omega
    clear hand h
    go_enter Tryd.func46, Tryd.ntmps46
    go_wp2
    go_quiet ((go_at_call 43; exact Calls.quiet_of_same (hb _)))
    go_wp2
    go_ret
    exact ⟨rfl, _, rfl⟩
theorem lleni_any (H : PLi col k w g m) : Calls Tryd.prog 32 #[.pointer (some ⟨g, 0, none⟩)] w fun e w' => e = .returned (.int .i64 m.l.length) ∧ w = w' := by
  obtain ⟨P, b, N, c, U, Au, nu, cu, M, R⟩ := H
  have x1 := M.c1
  clear M R
  go_enter Tryd.func32, Tryd.ntmps32
  go_wp2
  go_ret
  exact ⟨rfl, rfl⟩
set_option maxHeartbeats 1000000 in
theorem lfirsti_any (H : PLi col k w g m) : Calls Tryd.prog 36 #[.pointer (some ⟨g, 0, none⟩)] w fun e w' => e = .returned (.int .i64 m.first) ∧ ∃ j, w' = w.drewN j := by
  have hL := lleni_any H
  obtain ⟨P, b, N, c, U, Au, nu, cu, M, R⟩ := H
  have hl := M.len
  have x2 := M.c2
  obtain ⟨hcp, hcm⟩ := M.cap
  have hN1 := R.len1
  have h1 := R.first
  obtain ⟨q, hq⟩ : ∃ q, P[0]? = some q := ⟨_, List.getElem?_eq_getElem (by omega)⟩
  have h1' : (P[0]?).map (fun q => q.2.1) = some m.first := h1
  rw [hq] at h1'
  have hqf : q.2.1 = m.first := by injection h1'
  have hN : (0 : Int) < (N : Int) := by omega
  obtain ⟨_, y1, _, _⟩ := M.at_ hq
  rw [hqf] at y1
  have y1' : w.cell? ⟨b, 1, none⟩ = some (.int .i64 m.first) := by simpa using y1
  by_cases h0 : m.l.length = 0
  · have hF := firstC_nil h0
    rw [h0] at hL
    rw [hF]
    clear M R h1 h1' hqf y1 y1' hF hl h0
    go_enter Tryd.func36, Tryd.ntmps36
    go_wp2_with fail
    refine hL.mono ?_
    rintro e w1 ⟨rfl, hw⟩
    subst hw
    go_wp2
    go_ret
    exact ⟨rfl, 0, rfl⟩
  · have hne : ((m.l.length : Int) == 0) = false := by simp; intro e; rw [e] at h0; exact h0 rfl
    generalize m.first = F at *
    clear M R h1 h1' hqf y1 hl
    go_enter Tryd.func36, Tryd.ntmps36
    go_wp2_with fail
    refine hL.mono ?_
    rintro e w1 ⟨rfl, hw⟩
    subst hw
    go_wp2
    go_ret
    exact ⟨rfl, 0, rfl⟩
set_option maxHeartbeats 1000000 in
theorem llasti_any (H : PLi col k w g m) : Calls Tryd.prog 37 #[.pointer (some ⟨g, 0, none⟩)] w fun e w' => e = .returned (.int .i64 m.last) ∧ ∃ j, w' = w.drewN j := by
  have hL := lleni_any H
  obtain ⟨P, b, N, c, U, Au, nu, cu, M, R⟩ := H
  have hl := M.len
  have x2 := M.c2
  obtain ⟨hcp, hcm⟩ := M.cap
  have hN1 := R.len1
  have h1 := R.last
  obtain ⟨q, hq⟩ : ∃ q, P[0]? = some q := ⟨_, List.getElem?_eq_getElem (by omega)⟩
  have h1' : (P[0]?).map (fun q => q.1) = some m.last := h1
  rw [hq] at h1'
  have hqf : q.1 = m.last := by injection h1'
  have hN : (0 : Int) < (N : Int) := by omega
  obtain ⟨y0, _, _, _⟩ := M.at_ hq
  rw [hqf] at y0
  have y0' : w.cell? ⟨b, 0, none⟩ = some (.int .i64 m.last) := by simpa using y0
  by_cases h0 : m.l.length = 0
  · have hF := lastC_nil h0
    rw [h0] at hL
    rw [hF]
    clear M R h1 h1' hqf y0 y0' hF hl h0
    go_enter Tryd.func37, Tryd.ntmps37
    go_wp2_with fail
    refine hL.mono ?_
    rintro e w1 ⟨rfl, hw⟩
    subst hw
    go_wp2
    go_ret
    exact ⟨rfl, 0, rfl⟩
  · have hne : ((m.l.length : Int) == 0) = false := by simp; intro e; rw [e] at h0; exact h0 rfl
    generalize m.last = F at *
    clear M R h1 h1' hqf y0 hl
    go_enter Tryd.func37, Tryd.ntmps37
    go_wp2_with fail
    refine hL.mono ?_
    rintro e w1 ⟨rfl, hw⟩
    subst hw
    go_wp2
    go_ret
    exact ⟨rfl, 0, rfl⟩
set_option maxHeartbeats 1000000 in
theorem lnexti_any (H : PLi col k w g m) (ht : Tidy col w) {z : Int} (hz : J64 z) : Calls Tryd.prog 33 #[.pointer (some ⟨g, 0, none⟩), .int .i64 z] w fun e w' => e = .returned (.int .i64 (m.by_ z 1)) ∧ ∃ j, w' = w.drewN j := by
  obtain ⟨P, b, N, c, U, Au, nu, cu, M, R⟩ := H
  have hH := lhasi_any M R hz
  have hl := M.len
  obtain ⟨hcp, hcm⟩ := M.cap
  cases hp : placeC m.l z with
  | none =>
    rw [hp] at hH
    rw [by_off 1 hp]
    clear M R
    go_enter Tryd.func33, Tryd.ntmps33
    go_wp2_with fail
    refine hH.mono ?_
    rintro e w1 ⟨rfl, j, rfl⟩
    go_wp2
    go_ret
    exact ⟨rfl, j, rfl⟩
  | some i =>
    rw [hp] at hH
    have hN := R.next hp
    obtain ⟨q, rfl, hqP, hqU, hi, hr⟩ := R.on hp
    obtain ⟨y, hy⟩ : ∃ y, P[q + 1]? = some y := ⟨_, List.getElem?_eq_getElem hqP⟩
    have hN' : (P[((q : Int) + 1).toNat]?).map (fun q => q.2.1) = some (m.by_ (q : Int) 1) := hN
    rw [show ((q : Int) + 1).toNat = q + 1 by omega, hy] at hN'
    have hyf : y.2.1 = m.by_ (q : Int) 1 := by injection hN'
    have hN8 := R.lenN
    have hn8 := R.good.n8
    obtain ⟨B, hB⟩ : ∃ B, q + 1 = B := ⟨_, rfl⟩
    rw [hB] at hy
    have hw1 : IntKind.i64.wrap ((q : Int) + 1) = (B : Int) := by rw [IntKind.wrap_i64]; omega
    have hBI : (B : Int) < (N : Int) := by omega
    generalize m.by_ (q : Int) 1 = F at *
    have hM := fun j => M.drewN ht j
    clear hN hN' hB hqP hqU hi hr R hp
    go_enter Tryd.func33, Tryd.ntmps33
    go_wp2_with fail
    refine hH.mono ?_
    rintro e w1 ⟨rfl, j, rfl⟩
    have x2 := (hM j).c2
    obtain ⟨_, y1, _, _⟩ := (hM j).at_ hy
    rw [hyf] at y1
    clear hM M hyf hy
    go_wp2
    go_ret
    exact ⟨rfl, j, rfl⟩
set_option maxHeartbeats 1000000 in
theorem lprevi_any (H : PLi col k w g m) (ht : Tidy col w) {z : Int} (hz : J64 z) : Calls Tryd.prog 35 #[.pointer (some ⟨g, 0, none⟩), .int .i64 z] w fun e w' => e = .returned (.int .i64 (m.by_ z (-1))) ∧ ∃ j, w' = w.drewN j := by
  obtain ⟨P, b, N, c, U, Au, nu, cu, M, R⟩ := H
  have hH := lhasi_any M R hz
  have hl := M.len
  obtain ⟨hcp, hcm⟩ := M.cap
  cases hp : placeC m.l z with
  | none =>
    rw [hp] at hH
    rw [by_off (-1) hp]
    clear M R
    go_enter Tryd.func35, Tryd.ntmps35
    go_wp2_with fail
    refine hH.mono ?_
    rintro e w1 ⟨rfl, j, rfl⟩
    go_wp2
    go_ret
    exact ⟨rfl, j, rfl⟩
  | some i =>
    rw [hp] at hH
    have hN := R.prev hp
    obtain ⟨q, rfl, hqP, hqU, hi, hr⟩ := R.on hp
    obtain ⟨y, hy⟩ : ∃ y, P[q + 1]? = some y := ⟨_, List.getElem?_eq_getElem hqP⟩
    have hN' : (P[((q : Int) + 1).toNat]?).map (fun q => q.1) = some (m.by_ (q : Int) (-1)) := hN
    rw [show ((q : Int) + 1).toNat = q + 1 by omega, hy] at hN'
    have hyf : y.1 = m.by_ (q : Int) (-1) := by injection hN'
    have hN8 := R.lenN
    have hn8 := R.good.n8
    obtain ⟨B, hB⟩ : ∃ B, q + 1 = B := ⟨_, rfl⟩
    rw [hB] at hy
    have hw1 : IntKind.i64.wrap ((q : Int) + 1) = (B : Int) := by rw [IntKind.wrap_i64]; omega
    have hBI : (B : Int) < (N : Int) := by omega
    generalize m.by_ (q : Int) (-1) = F at *
    have hM := fun j => M.drewN ht j
    clear hN hN' hB hqP hqU hi hr R hp
    go_enter Tryd.func35, Tryd.ntmps35
    go_wp2_with fail
    refine hH.mono ?_
    rintro e w1 ⟨rfl, j, rfl⟩
    have x2 := (hM j).c2
    obtain ⟨y0, _, _, _⟩ := (hM j).at_ hy
    rw [hyf] at y0
    clear hM M hyf hy
    go_wp2
    go_ret
    exact ⟨rfl, j, rfl⟩
set_option maxHeartbeats 1000000 in
theorem lvaluei_any (H : PLi col k w g m) (ht : Tidy col w) {z : Int} (hz : J64 z) : Calls Tryd.prog 28 #[.pointer (some ⟨g, 0, none⟩), .int .i64 z] w fun e w' => e = .returned (.tuple #[(fun z : Int => Value.int .i64 z) (m.value (0 : Int) z).1, .int .i64 (m.value (0 : Int) z).2]) ∧ ∃ j, w' = w.drewN j := by
  obtain ⟨P, b, N, c, U, Au, nu, cu, M, R⟩ := H
  have hH := lhasi_any M R hz
  have hl := M.len
  obtain ⟨hcp, hcm⟩ := M.cap
  cases hp : placeC m.l z with
  | none =>
    rw [hp] at hH
    have hV : m.value (0 : Int) z = ((0 : Int), 8) := by unfold CSt.value; rw [hp]
    rw [hV]
    clear M R hV
    go_enter Tryd.func28, Tryd.ntmps28
    go_wp2_with fail
    refine hH.mono ?_
    rintro e w1 ⟨rfl, j, rfl⟩
    go_wp2
    go_ret2
    exact ⟨rfl, j, rfl⟩
  | some i =>
    rw [hp] at hH
    obtain ⟨q, rfl, hqP, hqU, hi, hr⟩ := R.on hp
    obtain ⟨p, hp1, hp2, _⟩ := place_some hp
    have hpq : p.1 = q := by omega
    have hV : m.value (0 : Int) (q : Int) = (p.2, 0) := by unfold CSt.value; rw [hp]; show (((m.l[i]?).map Prod.snd).getD _, (0 : Int)) = _; rw [hp1]; rfl
    have hN := R.val i p hp1
    obtain ⟨y, hy⟩ : ∃ y, P[q + 1]? = some y := ⟨_, List.getElem?_eq_getElem hqP⟩
    have hN' : (P[p.1 + 1]?).map (fun q => q.2.2) = some p.2 := hN
    rw [hpq, hy] at hN'
    have hyf : y.2.2 = p.2 := by injection hN'
    have hN8 := R.lenN
    have hn8 := R.good.n8
    obtain ⟨B, hB⟩ : ∃ B, q + 1 = B := ⟨_, rfl⟩
    rw [hB] at hy
    have hw1 : IntKind.i64.wrap ((q : Int) + 1) = (B : Int) := by rw [IntKind.wrap_i64]; omega
    have hBI : (B : Int) < (N : Int) := by omega
    rw [hV]
    obtain ⟨F, hF⟩ : ∃ F, p.2 = F := ⟨_, rfl⟩
    rw [hF] at hyf
    rw [hF]
    have hM := fun j => M.drewN ht j
    clear hN hN' hB hqP hqU hi hr R hp hV hp1 hp2 hpq hF
    go_enter Tryd.func28, Tryd.ntmps28
    go_wp2_with fail
    refine hH.mono ?_
    rintro e w1 ⟨rfl, j, rfl⟩
    have x2 := (hM j).c2
    obtain ⟨_, _, y2, _⟩ := (hM j).at_ hy
    rw [hyf] at y2
    have y2' : (w.drewN j).cell? ⟨b, B * 3 + 2, none⟩ = some ((fun z : Int => Value.int .i64 z) F) := y2
    clear hM M hyf hy y2
    go_wp2
    go_ret2
    exact ⟨rfl, j, rfl⟩
end
end Go.Proofs.YtfbddcbbkfklnaaDoor
