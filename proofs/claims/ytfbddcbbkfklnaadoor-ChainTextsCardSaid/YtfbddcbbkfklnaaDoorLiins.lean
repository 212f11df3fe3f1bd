/- The program's lists of int values: take, insert. Conditions: none beyond those typed. -/
import Derived.Test.YtfbddcbbkfklnaaDoorLilow
import Derived.StillTailTactics
namespace Go.Proofs.YtfbddcbbkfklnaaDoor
open Go.ChangeShapes Go.WideShapes Go.ChangeAt Go.RowKit
set_option linter.unusedVariables false
set_option linter.unusedSimpArgs false
set_option maxRecDepth 100000

section
variable {P' : Nat → Prop} {col col' : Col} {w w' w6 w7 : World} {k g n u b N c nu cu x : Nat} {Au : Option Addr} {P : List (Pn Int)} {U : List Nat} {i : Nat} {r : Pn Int} {m : CSt Int}
/-- A place more. -/
theorem Lxi.moreP (h : Lxi col k w g n u P b N c U Au nu cu) (ht : Tidy col w) {v7 : Value} {Q : List (Pn Int)} {N' : Nat} (hQ : Q.length = N' + 1) (O7 : OwnK kNi w7 v7 Q) (G7 : w.grownBy w7 (Value.slice (some ⟨b, 0, none⟩) N c).ownBlock) (hat7 : v7.ownBlock = (Value.slice (some ⟨b, 0, none⟩) N c).ownBlock ∨ v7.ownBlock = some w.heap.size) :
    ∃ b' c', v7 = .slice (some ⟨b', 0, none⟩) (N' + 1) c' ∧ w7.frozen? ⟨g, 2, none⟩ = false ∧ w7.cell? ⟨g, 2, none⟩ = some (.slice (some ⟨b, 0, none⟩) N c) ∧ ∃ col', Lxi col' k (w7.setCell ⟨g, 2, none⟩ v7) g n u Q b' (N' + 1) c' U Au nu cu ∧ StepC (Rng k) col w col' (w7.setCell ⟨g, 2, none⟩ v7) := by
  have S7 := StepC.app (P := fun c => c = k + 1) ht G7 h.row.col rfl hat7 O7.lt
  have hk := h.k1
  have B7 := h.box.keep S7 (by omega)
  obtain ⟨A7, c', rfl, _, hh⟩ := O7.form hQ
  obtain ⟨b', rfl, _⟩ : ∃ g, A7 = some ⟨g, 0, none⟩ ∧ g < w7.heap.size := by
    rcases hh with ⟨_, h2, _⟩ | h2
    · rw [h2] at hQ; simp at hQ
    · exact h2
  have R7 : OwnKc kNi _ w7 (k + 1) _ Q := OwnKc.mk' (col := col) (c := k + 1) kNi O7
  have s8 := StepC.set (P := fun d => d = k) S7.tidy (a := ⟨g, 2, none⟩) B7.col (.slice (some ⟨b', 0, none⟩) (N' + 1) c')
  exact ⟨b', c', rfl, B7.free 2, B7.cell 2 rfl, _, ⟨B7.put 2 _, R7.keep s8 (by omega), (h.wds.keep S7 (by omega)).keep s8 (by omega), (h.tab.keep S7 (by omega)).keep s8 (by omega), hk⟩,
    (S7.mono fun c e => ⟨by omega, by omega⟩).trans (s8.mono fun c e => ⟨by omega, by omega⟩)⟩
/-- A word more. -/
theorem Lxi.moreU (h : Lxi col k w g n u P b N c U Au nu cu) (ht : Tidy col w) {v7 : Value} {Q : List Nat} {N' : Nat} (hQ : Q.length = N' + 1) (O7 : OwnK kU w7 v7 (Q.map fun z : Nat => (z : Int))) (G7 : w.grownBy w7 (Value.slice Au nu cu).ownBlock) (hat7 : v7.ownBlock = (Value.slice Au nu cu).ownBlock ∨ v7.ownBlock = some w.heap.size) :
    ∃ b' c', v7 = .slice (some ⟨b', 0, none⟩) (N' + 1) c' ∧ w7.frozen? ⟨g, 3, none⟩ = false ∧ w7.cell? ⟨g, 3, none⟩ = some (.slice Au nu cu) ∧ ∃ col', Lxi col' k (w7.setCell ⟨g, 3, none⟩ v7) g n u P b N c Q (some ⟨b', 0, none⟩) (N' + 1) c' ∧ StepC (Rng k) col w col' (w7.setCell ⟨g, 3, none⟩ v7) := by
  have S7 := StepC.app (P := fun c => c = k + 2) ht G7 h.wds.col rfl hat7 O7.lt
  have hk := h.k1
  have B7 := h.box.keep S7 (by omega)
  obtain ⟨A7, c', rfl, _, hh⟩ := O7.form (n := N' + 1) (by rw [List.length_map]; exact hQ)
  obtain ⟨b', rfl, _⟩ : ∃ g, A7 = some ⟨g, 0, none⟩ ∧ g < w7.heap.size := by
    rcases hh with ⟨_, h2, _⟩ | h2
    · have := congrArg List.length h2; rw [List.length_map, List.length_nil] at this; omega
    · exact h2
  have R7 : OwnKc kU _ w7 (k + 2) _ (Q.map fun z : Nat => (z : Int)) := OwnKc.mk' (col := col) (c := k + 2) kU O7
  have s8 := StepC.set (P := fun d => d = k) S7.tidy (a := ⟨g, 3, none⟩) B7.col (.slice (some ⟨b', 0, none⟩) (N' + 1) c')
  exact ⟨b', c', rfl, B7.free 3, B7.cell 3 rfl, _, ⟨B7.put 3 _, (h.row.keep S7 (by omega)).keep s8 (by omega), R7.keep s8 (by omega), (h.tab.keep S7 (by omega)).keep s8 (by omega), hk⟩,
    (S7.mono fun c e => ⟨by omega, by omega⟩).trans (s8.mono fun c e => ⟨by omega, by omega⟩)⟩
/-- A place and a bit for number x are there. -/
def TookLi (col : Col) (k : Nat) (w : World) (g n u : Nat) (P : List (Pn Int)) (U : List Nat) (x : Nat) (w' : World) : Prop :=
  ∃ col' b N c Au nu cu, Lxi col' k w' g n u (morP (0 : Int) P x) b N c (putB (morU U x) x) Au nu cu ∧ StepC (Rng k) col w col' w'
/-- Where the places and the words are there: what is left is the bit. -/
theorem Lxi.ready {P1 : List (Pn Int)} {U1 : List Nat} (H : Lxi col' k w' g n u P1 b N c U1 Au nu cu) (hP1 : P1 = morP (0 : Int) P x) (hU1 : U1 = morU U x) (hs : StepC (Rng k) col w col' w') (hi : x / 64 = i) (hin : i < nu) (hU : ∀ u ∈ U, u < 18446744073709551616) :
    ∃ bu u0 y : Nat, Au = some ⟨bu, 0, none⟩ ∧ w'.cell? ⟨g, 3, none⟩ = some (.slice (some ⟨bu, 0, none⟩) nu cu) ∧ w'.cell? ⟨bu, i, none⟩ = some (.int .u64 (u0 : Int)) ∧ bits .or .u64 (u0 : Int) ((2 ^ (x % 64) : Nat) : Int) = (y : Int) ∧ w'.frozen? ⟨bu, i, none⟩ = false ∧
      ∀ j, TookLi col k w g n u P U x ((w'.drewN j).setCell ⟨bu, i, none⟩ (.int .u64 (y : Int))) := by
  subst hP1 hU1
  obtain ⟨bu, rfl, hc, fz⟩ := H.word hin
  have hb := getD_lt (morU_big (x := x) hU) i
  refine ⟨bu, (morU U x).getD i 0, (morU U x).getD i 0 ||| 2 ^ (x % 64), rfl, H.c3, hc, bits_or_u64_nat _ _ hb (pow_lt64 (Nat.mod_lt _ (by decide))), fz i, fun j => ?_⟩
  have ht := hs.tidy
  have H2 := H.drewN ht j
  have ht2 : Tidy col' (w'.drewN j) := ht
  have s2 : StepC (Rng k) col' w' col' (w'.drewN j) := StepC.below ht (below_drewN (Below.refl _ _) j)
  obtain ⟨H3, s3⟩ := H2.putU ht2 hin ((morU U x).getD i 0 ||| 2 ^ (x % 64))
  refine ⟨col', b, N, c, some ⟨bu, 0, none⟩, nu, cu, ?_, (hs.trans s2).trans (s3.mono fun c e => ⟨by omega, by omega⟩)⟩
  unfold putB
  rw [hi]
  exact H3
set_option maxHeartbeats 4000000 in
theorem ltakei_any (H : Lxi col k w g m.n m.l.length P b N c U Au nu cu) (R : Rp m P U) (ht : Tidy col w) (hn : m.l.length < m.n) (hx : freeN m.nodes = x) :
    Calls Tryd.prog 49 #[.pointer (some ⟨g, 0, none⟩)] w fun e w' => e = .returned (.int .i64 (x : Int)) ∧ TookLi col k w g m.n m.l.length P U x w' := by
  have hLs := lleasti_any H R.bit R.big (by rw [← H.lenU]; exact R.lenU)
  rw [hx] at hLs
  obtain ⟨f1, f2, f3, f4⟩ := R.free hn hx
  have hl := H.len
  have hlU := H.lenU
  have hN8 := R.lenN
  have hn8 := R.good.n8
  have hU8 := R.lenU
  have hN1 := R.len1
  have hUb := Lib.hid R.big
  have x2 := H.c2
  have x3 := H.c3
  obtain ⟨hcp, hcm⟩ := H.cap
  obtain ⟨hcpU, hcmU⟩ := H.capU
  obtain ⟨i, hi⟩ : ∃ i, x / 64 = i := ⟨_, rfl⟩
  have hw1 : IntKind.i64.wrap ((N : Int) - 1) = ((N : Int) - 1) := by rw [IntKind.wrap_i64]; omega
  have hw2 : (x : Int).tdiv 64 = (i : Int) := by rw [Int.tdiv_eq_ediv_of_nonneg (by omega)]; omega
  have hw3 : IntKind.i64.wrap (i : Int) = (i : Int) := by rw [IntKind.wrap_i64]; omega
  have hb := fun W : World => bit_any x (by omega) W
  have hHi := Lib.hid hi
  have hmP1 : x + 1 = P.length → P ++ [((0, 0, (0 : Int)) : Pn Int)] = morP (0 : Int) P x := fun h => (if_pos h).symm
  have hmP0 : x + 1 < P.length → P = morP (0 : Int) P x := fun h => (if_neg (by omega)).symm
  have hmU1 : i = U.length → U ++ [0] = morU U x := fun h => (if_pos (by omega)).symm
  have hmU0 : i < U.length → U = morU U x := fun h => (if_neg (by omega)).symm
  have hx1 : x + 1 = N ∨ x + 1 < N := by omega
  have hx2 : i = nu ∨ i < nu := by omega
  generalize hB : 2 ^ (x % 64) = B at hb
  have hHB := Lib.hid hB
  have hbS := fun W : World => (hb W).mono (R' := fun e w' => e = .returned (.int .u64 (B : Int)) ∧ w' = W) fun e w' h => ⟨h.1, h.2.symm⟩
  clear hB hb
  rcases hx1 with hx1 | hx1 <;> rcases hx2 with hx2 | hx2
  · have hI1 : ((x : Int) == (N : Int) - 1) = true := beq_iff_eq.2 (by omega)
    replace hx2 := hx2.symm
    subst hx2
    have hI2 : ((nu : Int) == (nu : Int)) = true := beq_iff_eq.2 rfl
    have hPm := Lib.hid (hmP1 (by omega))
    have hUm := Lib.hid (hmU1 (by omega))
    have hBd : Below w.heap.size w (w.alloc (.cells #[.int .i64 0, .int .i64 0, .int .i64 0] 57)) := (Below.refl _ _).alloc (Nat.le_refl _) _
    have H6 := H.below ht hBd
    have ht6 := ht.size hBd.size
    have S6 : StepC (Rng k) col w col (w.alloc (.cells #[.int .i64 0, .int .i64 0, .int .i64 0] 57)) := StepC.below ht hBd
    have rd6 : RdG kNi (w.alloc (.cells #[.int .i64 0, .int .i64 0, .int .i64 0] 57)) (some ⟨w.heap.size, 0, none⟩) 1 1 [(0, 0, (0 : Int))] := RdG.one' kNi rfl _
    have oN := H6.row.own
    have hby : P.length + 1 ≤ 1000000000 := by omega
    have hlS : (P ++ [((0, 0, (0 : Int)) : Pn Int)]).length = N + 1 := by simp [hl]
    have HH6 := Lib.hid H6
    have hapU : (U.map fun z : Nat => (z : Int)) ++ [(0 : Int)] = (U ++ [0]).map fun z : Nat => (z : Int) := by simp
    have hby2 : (U.map fun z : Nat => (z : Int)).length + 1 ≤ 1000000000 := by rw [List.length_map]; omega
    have hlS2 : (U ++ [0]).length = nu + 1 := by simp [hlU]
    have hinI : (nu : Int) < (nu : Int) + 1 := by omega
    have hin : nu < nu + 1 := by omega
    clear H H6 f1 hmP1 hmP0 hmU1 hmU0 hi R hx f2 f3 f4 hN1 hn hN8 hl
    go_enter Tryd.func49, Tryd.ntmps49
    go_wp2_with fail
    refine hLs.mono ?_
    rintro e w1 ⟨rfl, hw⟩
    subst hw
    clear hLs
    go_wp2_with (first | (at_builtin; refine wpList_appK kNi rfl (.tmp 18) (.tmp 20) rfl _ P rfl _ 1 1 [(0, 0, (0 : Int))] rfl oN rd6 hby ?_; intro v7 w7 O7 G7 hat7; obtain ⟨b7, c7, rfl, fz7, cc7, col8, H8, S8⟩ := HH6.out.moreP ht6 hlS O7 G7 hat7; have q3 := H8.c3; have HH8 := Lib.hid (And.intro H8 (S6.trans S8)); clear H8 S8 S6 O7 G7 hat7 oN rd6; have H9 := HH8.out.1.below HH8.out.2.tidy ((Below.refl _ _).alloc (Nat.le_refl _) (.cells #[.int .u64 0] 68)); have s9 : StepC (Rng k) _ _ _ _ := StepC.below HH8.out.2.tidy ((Below.refl _ _).alloc (Nat.le_refl _) (.cells #[.int .u64 0] 68)); have HS9 := Lib.hid (HH8.out.2.trans s9); have ht9 := s9.tidy; have rd9 : RdG kU _ (some ⟨w7.heap.size, 0, none⟩) 1 1 [(0 : Int)] := RdG.one' kU (w := w7.setCell ⟨g, 2, none⟩ (.slice (some ⟨b7, 0, none⟩) (N + 1 : Nat) c7)) (by simp [World.setCell]) _; have oU9 := H9.wds.own; have HH9 := Lib.hid H9; clear H9 s9) | (at_builtin; refine wpList_appK kU rfl (.tmp 36) (.tmp 37) rfl _ (U.map fun z : Nat => (z : Int)) rfl _ 1 1 [(0 : Int)] rfl oU9 rd9 hby2 ?_; intro v9 w9 O9 G9 hat9; rw [hapU] at O9; obtain ⟨b10, c10, rfl, fz10, cc10, col10, H10, S10⟩ := HH9.out.moreU ht9 hlS2 O9 G9 hat9; have q10 := H10.c3; have HH10 := Lib.hid (And.intro H10 S10); clear H10 S10 O9 G9 hat9 oU9 rd9))
    obtain ⟨bu, u0, y, hAu, r3, rc, hor, frz, HT0⟩ := HH10.out.1.ready hPm.out hUm.out (HS9.out.trans HH10.out.2) hHi.out hin hUb.out
    obtain rfl : b10 = bu := by injection hAu with h; injection h
    clear q10 fz10 cc10 HH9 HH10 ht9 HS9 x2 x3 hAu
    rw [hHB.out] at hor
    have HT := Lib.hid HT0
    clear HT0
    generalize w9.setCell _ _ = W9 at *
    go_still_tail 12, (by kernel_rfl)
    still_call (hbS _)
    repeat still_step
    refine wpStill_nil ?_
    change wpList _ _ _ _ _ (World.drew _)
    go_wp2
    go_ret
    exact ⟨rfl, HT.out 1⟩
  · have hI1 : ((x : Int) == (N : Int) - 1) = true := beq_iff_eq.2 (by omega)
    have hI2 : ((i : Int) == (nu : Int)) = false := beq_false_of_ne (by omega)
    obtain ⟨bu, rfl, _⟩ := H.word hx2
    have hPm := Lib.hid (hmP1 (by omega))
    have hUm := Lib.hid (hmU0 (by omega))
    have hBd : Below w.heap.size w (w.alloc (.cells #[.int .i64 0, .int .i64 0, .int .i64 0] 57)) := (Below.refl _ _).alloc (Nat.le_refl _) _
    have H6 := H.below ht hBd
    have ht6 := ht.size hBd.size
    have S6 : StepC (Rng k) col w col (w.alloc (.cells #[.int .i64 0, .int .i64 0, .int .i64 0] 57)) := StepC.below ht hBd
    have rd6 : RdG kNi (w.alloc (.cells #[.int .i64 0, .int .i64 0, .int .i64 0] 57)) (some ⟨w.heap.size, 0, none⟩) 1 1 [(0, 0, (0 : Int))] := RdG.one' kNi rfl _
    have oN := H6.row.own
    have hby : P.length + 1 ≤ 1000000000 := by omega
    have hlS : (P ++ [((0, 0, (0 : Int)) : Pn Int)]).length = N + 1 := by simp [hl]
    have HH6 := Lib.hid H6
    have hinI : (i : Int) < (nu : Int) := by omega
    have hin : i < nu := by omega
    clear H H6 f1 hmP1 hmP0 hmU1 hmU0 hi R hx f2 f3 f4 hN1 hn hN8 hl
    go_enter Tryd.func49, Tryd.ntmps49
    go_wp2_with fail
    refine hLs.mono ?_
    rintro e w1 ⟨rfl, hw⟩
    subst hw
    clear hLs
    go_wp2_with (at_builtin; refine wpList_appK kNi rfl (.tmp 18) (.tmp 20) rfl _ P rfl _ 1 1 [(0, 0, (0 : Int))] rfl oN rd6 hby ?_; intro v7 w7 O7 G7 hat7; obtain ⟨b7, c7, rfl, fz7, cc7, col8, H8, S8⟩ := HH6.out.moreP ht6 hlS O7 G7 hat7; have q3 := H8.c3; have HH8 := Lib.hid (And.intro H8 (S6.trans S8)); clear H8 S8 S6 O7 G7 hat7 oN rd6)
    obtain ⟨bu2, u0, y, hAu, r3, rc, hor, frz, HT0⟩ := HH8.out.1.ready hPm.out hUm.out HH8.out.2 hHi.out hin hUb.out
    injection hAu with hAu
    injection hAu with hAu
    subst hAu
    clear q3 fz7 cc7 HH8 x2 x3 HH6 hBd ht6
    rw [hHB.out] at hor
    have HT := Lib.hid HT0
    clear HT0
    generalize w7.setCell _ _ = W9 at *
    go_still_tail 12, (by kernel_rfl)
    still_call (hbS _)
    repeat still_step
    refine wpStill_nil ?_
    change wpList _ _ _ _ _ (World.drew _)
    go_wp2
    go_ret
    exact ⟨rfl, HT.out 1⟩
  · have hI1 : ((x : Int) == (N : Int) - 1) = false := beq_false_of_ne (by omega)
    replace hx2 := hx2.symm
    subst hx2
    have hI2 : ((nu : Int) == (nu : Int)) = true := beq_iff_eq.2 rfl
    have hPm := Lib.hid (hmP0 (by omega))
    have hUm := Lib.hid (hmU1 (by omega))
    have hapU : (U.map fun z : Nat => (z : Int)) ++ [(0 : Int)] = (U ++ [0]).map fun z : Nat => (z : Int) := by simp
    have hby2 : (U.map fun z : Nat => (z : Int)).length + 1 ≤ 1000000000 := by rw [List.length_map]; omega
    have hlS2 : (U ++ [0]).length = nu + 1 := by simp [hlU]
    have hinI : (nu : Int) < (nu : Int) + 1 := by omega
    have hin : nu < nu + 1 := by omega
    have hB9 : Below w.heap.size w (w.alloc (.cells #[.int .u64 0] 68)) := (Below.refl _ _).alloc (Nat.le_refl _) _
    have H9 := H.below ht hB9
    have s9 : StepC (Rng k) col w col (w.alloc (.cells #[.int .u64 0] 68)) := StepC.below ht hB9
    have HS9 := Lib.hid s9
    have ht9 := s9.tidy
    have rd9 : RdG kU (w.alloc (.cells #[.int .u64 0] 68)) (some ⟨w.heap.size, 0, none⟩) 1 1 [(0 : Int)] := RdG.one' kU rfl _
    have oU9 := H9.wds.own
    have HH9 := Lib.hid H9
    clear H H9 s9 f1 hmP1 hmP0 hmU1 hmU0 hi R hx f2 f3 f4 hN1 hn hN8 hl
    go_enter Tryd.func49, Tryd.ntmps49
    go_wp2_with fail
    refine hLs.mono ?_
    rintro e w1 ⟨rfl, hw⟩
    subst hw
    clear hLs
    go_wp2_with (at_builtin; refine wpList_appK kU rfl (.tmp 36) (.tmp 37) rfl _ (U.map fun z : Nat => (z : Int)) rfl _ 1 1 [(0 : Int)] rfl oU9 rd9 hby2 ?_; intro v9 w9 O9 G9 hat9; rw [hapU] at O9; obtain ⟨b10, c10, rfl, fz10, cc10, col10, H10, S10⟩ := HH9.out.moreU ht9 hlS2 O9 G9 hat9; have q10 := H10.c3; have HH10 := Lib.hid (And.intro H10 S10); clear H10 S10 O9 G9 hat9 oU9 rd9)
    obtain ⟨bu, u0, y, hAu, r3, rc, hor, frz, HT0⟩ := HH10.out.1.ready hPm.out hUm.out (HS9.out.trans HH10.out.2) hHi.out hin hUb.out
    obtain rfl : b10 = bu := by injection hAu with h; injection h
    clear q10 fz10 cc10 HH9 HH10 ht9 HS9 x2 x3 hAu
    rw [hHB.out] at hor
    have HT := Lib.hid HT0
    clear HT0
    generalize w9.setCell _ _ = W9 at *
    go_still_tail 12, (by kernel_rfl)
    still_call (hbS _)
    repeat still_step
    refine wpStill_nil ?_
    change wpList _ _ _ _ _ (World.drew _)
    go_wp2
    go_ret
    exact ⟨rfl, HT.out 1⟩
  · have hI1 : ((x : Int) == (N : Int) - 1) = false := beq_false_of_ne (by omega)
    have hI2 : ((i : Int) == (nu : Int)) = false := beq_false_of_ne (by omega)
    have hPm := hmP0 (by omega)
    have hUm := hmU0 (by omega)
    have hinI : (i : Int) < (nu : Int) := by omega
    have hin : i < nu := by omega
    obtain ⟨bu, u0, y, rfl, r3, rc, hor, frz, HT0⟩ := H.ready hPm hUm (StepC.refl ht) hHi.out hin hUb.out
    rw [hHB.out] at hor
    have HT := Lib.hid HT0
    clear HT0
    clear H hPm hUm f1 hmP1 hmP0 hmU1 hmU0 hi R hx f2 f3 f4 hN1 hn hN8 hl r3
    go_enter Tryd.func49, Tryd.ntmps49
    go_wp2_with fail
    refine hLs.mono ?_
    rintro e w1 ⟨rfl, hw⟩
    subst hw
    clear hLs
    go_wp2
    have r3 := x3
    go_still_tail 12, (by kernel_rfl)
    still_call (hbS _)
    repeat still_step
    refine wpStill_nil ?_
    change wpList _ _ _ _ _ (World.drew _)
    go_wp2
    go_ret
    exact ⟨rfl, HT.out 1⟩
set_option maxHeartbeats 4000000 in
theorem linserti_any (H : PLi col k w g m) (ht : Tidy col w) {a : Int} (ha : a = rg m.nodes i) (hi : i ≤ m.l.length) (v : Int) :
    Calls Tryd.prog 44 #[.pointer (some ⟨g, 0, none⟩), .int .i64 a, (fun z : Int => Value.int .i64 z) v] w (AddOut PLi col k w g (m.ins i v)) := by
  have H0 := H
  obtain ⟨P, b, N, c, U, Au, nu, cu, M, R⟩ := H
  have hn8 := R.good.n8
  have hlen := R.good.len
  have hN8 := R.lenN
  have x0 := M.c0
  have x1 := M.c1
  have HM := fun j => M.drewN ht j
  by_cases hfull : m.l.length = m.n
  · have hfI : ((m.l.length : Int) == (m.n : Int)) = true := beq_iff_eq.2 (by omega)
    rw [insC_full hfull]
    have HD := Lib.hid (show ∀ j, DidPL PLi col k w g m (w.drewN j) from fun j => ⟨col, H0.below ht (below_drewN (Below.refl _ _) j), StepC.below ht (below_drewN (Below.refl _ _) j)⟩)
    clear M R HM H0 ha hfull hlen
    go_enter Tryd.func44, Tryd.ntmps44
    go_wp2
    go_quiet (fail)
    go_wp2
    go_ret2
    exact ⟨rfl, HD.out _⟩
  · have hfI : ((m.l.length : Int) == (m.n : Int)) = false := beq_false_of_ne (by omega)
    obtain ⟨x, hx⟩ : ∃ x, freeN m.nodes = x := ⟨_, rfl⟩
    have hn : m.l.length < m.n := by omega
    obtain ⟨l1, l2, l3⟩ := morP_len (z0 := (0 : Int)) R hn hx
    obtain ⟨hr1, hr2⟩ := R.ring i hi
    rw [insC_room hfull hx]
    have hTk := fun j => ltakei_any (HM j) R ht hn hx
    have RI := Lib.hid (R.ins (z0 := (0 : Int)) hn hx hi v)
    obtain ⟨q, hq, hqf, hql⟩ := nN_place (morP_n (z0 := (0 : Int)) (x := x) hr1)
    obtain ⟨_, _, _, hql2⟩ := pN_place (morP_p (z0 := (0 : Int)) (x := x) hr2)
    have hga := rg_ge m.nodes i
    have hgd := rg_ge m.nodes (i + 1)
    rw [← ha] at hq hql RI hga
    obtain ⟨d, hd⟩ : ∃ d, rg m.nodes (i + 1) = d := ⟨_, rfl⟩
    rw [hd] at hqf hql2 RI hgd
    obtain ⟨A, hA⟩ : ∃ A, (a + 1).toNat = A := ⟨_, rfl⟩
    have hwA : IntKind.i64.wrap (a + 1) = (A : Int) := by rw [IntKind.wrap_i64]; omega
    obtain ⟨X, hX⟩ : ∃ X, x + 1 = X := ⟨_, rfl⟩
    have hwX : IntKind.i64.wrap ((x : Int) + 1) = (X : Int) := by rw [IntKind.wrap_i64]; omega
    obtain ⟨u1, hu1⟩ : ∃ u1, m.l.length + 1 = u1 := ⟨_, rfl⟩
    have hwu : IntKind.i64.wrap ((m.l.length : Int) + 1) = (u1 : Int) := by rw [IntKind.wrap_i64]; omega
    have hins := ins_len m.l i v
    rw [hA] at hq
    have hxa : (((x : Int)) + 1).toNat = X := by omega
    clear hr1 hr2 R ha hd M H0
    go_enter Tryd.func44, Tryd.ntmps44
    go_wp2
    go_quiet (fail)
    go_wp2_with fail
    refine (hTk _).mono ?_
    rintro e w1 ⟨rfl, col1, b1, N1, c1, Au1, nu1, cu1, M1, s1⟩
    have s0 : ∀ j, StepC (Rng k) col w col (w.drewN j) := fun j => StepC.below ht (below_drewN (Below.refl _ _) j)
    have S1 := (s0 _).trans s1
    clear hTk HM s1 s0
    have hN1 := M1.len
    obtain ⟨hcp1, hcm1⟩ := M1.cap
    have y2 := M1.c2
    obtain ⟨_, z1, _, _⟩ := M1.at_ hq
    rw [hqf] at z1
    have hAI : (A : Int) < (N1 : Int) := by omega
    have J1 := ljoini_any M1 S1.tidy hga (show (-1 : Int) ≤ (x : Int) by omega) (by omega) (by omega) (by omega)
    clear M1
    go_wp2_with fail
    refine J1.mono ?_
    rintro e w2 ⟨rfl, M2, s2⟩
    have S2 := S1.trans s2
    have J2 := ljoini_any M2 S2.tidy (show (-1 : Int) ≤ (x : Int) by omega) hgd (by omega) (by omega) (by omega)
    clear M2 J1 s2 y2 z1
    go_wp2_with fail
    refine J2.mono ?_
    rintro e w3 ⟨rfl, M3, s3⟩
    have S3 := S2.trans s3
    clear J2 s3
    have hP3 : X < (joinP (joinP (morP (0 : Int) P x) a x) x d).length := by rw [join_len, join_len]; omega
    obtain ⟨q3, hq3⟩ : ∃ q, (joinP (joinP (morP (0 : Int) P x) a x) x d)[X]? = some q := ⟨_, List.getElem?_eq_getElem hP3⟩
    have y2 := M3.c2
    obtain ⟨_, _, _, fz3⟩ := M3.at_ hq3
    have fz := fz3 (X * 3 + 2)
    have hXI : (X : Int) < (N1 : Int) := by omega
    obtain ⟨M4, s4⟩ := M3.put S3.tidy hq3 (j := 2) (v := (fun z : Int => Value.int .i64 z) v) (r' := (q3.1, q3.2.1, v)) (by omega) rfl
    have S4 := S3.trans (s4.mono (P' := Rng k) fun c e => ⟨by omega, by omega⟩)
    have hp : (joinP (joinP (morP (0 : Int) P x) a x) x d).set X (q3.1, q3.2.1, v) = insP (0 : Int) P x a d v := by unfold insP; rw [hX, modN_set hq3]
    rw [hp] at M4
    have y1 := M4.c1
    have f1 := M4.box.free 1
    obtain ⟨M5, s5⟩ := M4.cnt S4.tidy u1
    have S5 := S4.trans (s5.mono (P' := Rng k) fun c e => ⟨by omega, by omega⟩)
    have HD := Lib.hid (show DidPL PLi col k w g ({ m with l := insC m.l i v } : CSt Int) _ from ⟨_, ⟨_, b1, N1, c1, _, Au1, nu1, cu1, by rw [show ({ m with l := insC m.l i v } : CSt Int).l.length = u1 by rw [← hu1]; exact hins]; exact M5, RI.out⟩, S5⟩)
    clear M3 M4 M5 S1 S2 S3 S4 S5 s4 s5 RI hp hq3 hP3 fz3 hq hins hcp1 hN1
    go_wp2
    go_ret2
    exact ⟨rfl, HD.out⟩
end
end Go.Proofs.YtfbddcbbkfklnaaDoor
