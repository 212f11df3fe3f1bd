/- The specified order (heavykeysref08.Ranks) in memory: Least, Insert, Raise. Conditions: none beyond those typed. -/
import Derived.Test.YtopjnalehllgcaaDoorRref3
namespace Go.Proofs.YtopjnalehllgcaaDoor
open Go.ChangeShapes Go.WideShapes Go.ChangeAt Go.RowKit
set_option linter.unusedVariables false
set_option linter.unusedSimpArgs false
set_option maxRecDepth 100000

section
variable {P : Nat → Prop} {col col' : Col} {w w' : World} {k g n : Nat} {m : CSt Int} {i : Nat}
set_option maxHeartbeats 1000000 in
theorem rrLeast (H : RefR col k w g m) :
    Calls Tryd.prog 23 #[.pointer (some ⟨g, 0, none⟩)] w fun e w' => e = .returned (.tuple #[.int .i64 m.leastR.1.1, .int .u64 m.leastR.1.2, .bool m.leastR.2]) ∧ ∃ j, w' = w.drewN j := by
  obtain ⟨hG, vN, vV, H⟩ := H
  have hlen := hG.c.len
  have hn8 := hG.c.n8
  obtain ⟨A, c, hvN, R1, _⟩ := H.ns.own.form (ns_len m)
  have x1 : w.cell? ⟨g, 1, none⟩ = some vN := H.box.cell 1 rfl
  have hcap := R1.cap
  have hmax := R1.max
  by_cases h0 : m.l.length = 0
  · have E := Lib.hid (show m.leastR = ((0, 0), false) by unfold CSt.leastR; rw [List.eq_nil_of_length_eq_zero h0])
    rw [hvN] at x1
    have he : ((m.l.length : Int) == 0) = true := beq_iff_eq.2 (by omega)
    clear H hG R1
    go_enter Tryd.func23, Tryd.ntmps23
    go_wp2
    go_ret3
    rw [E.out]
    exact ⟨rfl, 0, rfl⟩
  · obtain ⟨p, hp⟩ : ∃ p, m.l[0]? = some p := ⟨_, List.getElem?_eq_getElem (by omega)⟩
    have E := Lib.hid (show m.leastR = (((p.1 : Int), p.2), true) by
      unfold CSt.leastR
      cases hl : m.l with
      | nil => rw [hl] at h0; exact absurd rfl h0
      | cons q r => rw [hl] at hp; simp at hp; subst hp; rfl)
    obtain ⟨b, c1, e1, y1, q1, q2⟩ := H.atN hp
    obtain ⟨b2, c2, e2, y2, q3, q4⟩ := H.atV hp
    have x2 : w.cell? ⟨g, 2, none⟩ = some vV := H.box.cell 2 rfl
    rw [e1] at x1
    rw [e2] at x2
    obtain ⟨L, hL⟩ : ∃ L, m.l.length = L := ⟨_, rfl⟩
    rw [hL] at x1 x2 h0 q1 q3
    have he : ((L : Int) == 0) = false := beq_false_of_ne (by omega)
    have hL0 : (0 : Int) < (L : Int) := by omega
    have hL1 : 0 < L := by omega
    clear H hG R1 hp hL hvN e1 e2
    go_enter Tryd.func23, Tryd.ntmps23
    go_wp2
    go_quiet (fail)
    go_wp2
    go_ret3
    rw [E.out]
    exact ⟨rfl, _, rfl⟩
theorem RefR.stay (H : RefR col k w g m) (ht : Tidy col w) : DidRR col k w g m w := ⟨col, H, StepC.refl ht⟩
set_option maxHeartbeats 1000000 in
theorem rrInsert (H : RefR col k w g m) (ht : Tidy col w) (z x : Int) (hz : -9223372036854775808 ≤ z ∧ z ≤ 9223372036854775807) (hx : 0 ≤ x ∧ x ≤ 18446744073709551615) :
    Calls Tryd.prog 19 #[.pointer (some ⟨g, 0, none⟩), .int .i64 z, .int .u64 x] w fun e w' => e = .returned (.int .i64 (m.insR z x).1) ∧ DidRR col k w g (m.insR z x).2 w' := by
  obtain ⟨hz0, hz1⟩ := hz
  obtain ⟨hx0, hx1⟩ := hx
  have hSt := Lib.hid (H.stay ht)
  have hPl := rrPlace H z ⟨hz0, hz1⟩
  have hGI := H.1.insR z x hx0
  obtain ⟨hG, vN, vV, H1⟩ := H
  have hlen := hG.c.len
  have hn8 := hG.c.n8
  have x0 : w.cell? ⟨g, 0, none⟩ = some (.int .i64 m.n) := H1.box.cell 0 rfl
  by_cases h1 : z < 0
  · have E := Lib.hid (show m.insR z x = (1, m) from if_pos (.inl h1))
    clear H1 hG hGI hPl
    go_enter Tryd.func19, Tryd.ntmps19
    go_wp2
    go_ret
    rw [E.out]
    exact ⟨rfl, hSt.out⟩
  by_cases h2 : (m.n : Int) ≤ z
  · have E := Lib.hid (show m.insR z x = (1, m) from if_pos (.inr h2))
    clear H1 hG hGI hPl
    go_enter Tryd.func19, Tryd.ntmps19
    go_wp2
    go_ret
    rw [E.out]
    exact ⟨rfl, hSt.out⟩
  have h12 : ¬ (z < 0 ∨ (m.n : Int) ≤ z) := by omega
  cases hp : placeC m.l z with
  | some i =>
    have E := Lib.hid (show m.insR z x = (10, m) by unfold CSt.insR; rw [if_neg h12, if_pos (by rw [hp]; rfl)])
    have HP := Lib.hid (plR_some hp)
    have hi0 : (0 : Int) ≤ (i : Int) := by omega
    clear H1 hG hGI hp h12
    go_enter Tryd.func19, Tryd.ntmps19
    go_wp2_with fail
    refine hPl.mono ?_
    rintro e w1 ⟨rfl, rfl⟩
    rw [HP.out]
    go_wp2
    go_ret
    rw [E.out]
    exact ⟨rfl, hSt.out⟩
  | none =>
    have HP := Lib.hid (plR_none hp)
    have hps : ¬ (placeC m.l z).isSome = true := by rw [hp]; simp
    by_cases h3 : 9223372036854775808 < x
    · have E := Lib.hid (show m.insR z x = (12, m) by unfold CSt.insR; rw [if_neg h12, if_neg hps, if_pos h3])
      clear H1 hG hGI hp h12 hps
      go_enter Tryd.func19, Tryd.ntmps19
      go_wp2_with fail
      refine hPl.mono ?_
      rintro e w1 ⟨rfl, rfl⟩
      rw [HP.out]
      go_wp2
      go_ret
      rw [E.out]
      exact ⟨rfl, hSt.out⟩
    · obtain ⟨d, hd⟩ : ∃ d : Nat, z = (d : Int) := ⟨z.toNat, by omega⟩
      subst hd
      have E := Lib.hid (show m.insR (d : Int) x = (0, { m with l := putR m.l d x }) by unfold CSt.insR; rw [if_neg h12, if_neg hps, if_neg h3, Int.toNat_natCast])
      have hPut := rrPut (d := d) (x := x) H1 ht (by omega) (by have := hGI; rw [E.out] at this; exact this) (by omega) hx0 hx1
      clear H1 hG hGI hp h12 hps
      go_enter Tryd.func19, Tryd.ntmps19
      go_wp2_with fail
      refine hPl.mono ?_
      rintro e w1 ⟨rfl, rfl⟩
      rw [HP.out]
      go_wp2_with fail
      refine hPut.mono ?_
      rintro e w2 ⟨rfl, hD⟩
      go_wp2
      go_ret
      rw [E.out]
      exact ⟨rfl, hD⟩
set_option maxHeartbeats 1000000 in
theorem rrRaise (H : RefR col k w g m) (ht : Tidy col w) (z x : Int) (hz : -9223372036854775808 ≤ z ∧ z ≤ 9223372036854775807) (hx : 0 ≤ x ∧ x ≤ 18446744073709551615) :
    Calls Tryd.prog 20 #[.pointer (some ⟨g, 0, none⟩), .int .i64 z, .int .u64 x] w fun e w' => e = .returned (.int .i64 (m.raiseR z x).1) ∧ DidRR col k w g (m.raiseR z x).2 w' := by
  obtain ⟨hx0, hx1⟩ := hx
  have hSt := Lib.hid (H.stay ht)
  have hPl := rrPlace H z hz
  have hRm := rrRemove H ht z hz
  have hGI := H.1.raiseR z x hx0
  have hGR := H.1.rem z
  obtain ⟨hG, vN, vV, H1⟩ := H
  have hlen := hG.c.len
  have hn8 := hG.c.n8
  cases hp : placeC m.l z with
  | none =>
    have E := Lib.hid (show m.raiseR z x = (8, m) by unfold CSt.raiseR; rw [hp])
    have HP := Lib.hid (plR_none hp)
    clear H1 hG hGI hp hRm hGR
    go_enter Tryd.func20, Tryd.ntmps20
    go_wp2_with fail
    refine hPl.mono ?_
    rintro e w1 ⟨rfl, rfl⟩
    rw [HP.out]
    go_wp2
    go_ret
    rw [E.out]
    exact ⟨rfl, hSt.out⟩
  | some i =>
    obtain ⟨q, hq, hq1, hi⟩ := place_some hp
    have hqb := hG.bd q (List.mem_of_getElem? hq)
    have HP := Lib.hid (plR_some hp)
    have E0 : m.raiseR z x = if fitsB q.2 x = true then (0, if 0 < x then { m with l := putR (remC m.l i) q.1 (q.2 + x) } else m) else (12, m) := by unfold CSt.raiseR; rw [hp]; simp only [hq]
    have EV : m.value 0 z = (q.2, 0) := by unfold CSt.value; rw [hp]; simp [hq]
    have ER : m.rem z = { m with l := remC m.l i } := by unfold CSt.rem; rw [hp]
    obtain ⟨b, c, hvV, y1, q1, q2⟩ := H1.atV hq
    have x2 : w.cell? ⟨g, 2, none⟩ = some vV := H1.box.cell 2 rfl
    rw [hvV] at x2
    have hi2 : (i : Int) < (m.l.length : Int) := by omega
    have hi0 : ¬ (i : Int) < 0 := by omega
    have hFt := rfits_any q.2 x w ⟨by omega, by omega⟩ ⟨hx0, hx1⟩
    by_cases hf : fitsB q.2 x = true
    · rw [if_pos hf] at E0
      rw [hf] at hFt
      by_cases h0 : 0 < x
      · rw [if_pos h0] at E0
        have hf' : q.2 + x ≤ 9223372036854775808 := by unfold fitsB at hf; simpa using hf
        have hwx : IntKind.u64.wrap (q.2 + x) = q.2 + x := IntWalk.u64_in _ ⟨by omega, by omega⟩
        have E := Lib.hid E0
        rw [EV, ER] at hRm
        have hGP := Lib.hid (show GoodR { m with l := putR (remC m.l i) q.1 (q.2 + x) } by have := hGI; rw [E0] at this; exact this)
        have hrl := rem_len hi
        have hqn := hG.c.lt q.1 (List.mem_map.2 ⟨q, List.mem_of_getElem? hq, rfl⟩)
        rw [← hq1] at hPl hRm ⊢
        rw [← hq1] at E HP
        clear H1 hG hGI hp hq hq1 hGR EV ER hvV E0 hf
        go_enter Tryd.func20, Tryd.ntmps20
        go_wp2_with fail
        refine hPl.mono ?_
        rintro e w1 ⟨rfl, rfl⟩
        rw [HP.out]
        go_wp2_with fail
        refine hFt.mono ?_
        rintro e w1 ⟨rfl, hw1⟩
        subst hw1
        go_wp2_with fail
        refine hRm.mono ?_
        rintro e w2 ⟨rfl, col2, ⟨hG2, vN2, vV2, H2⟩, S2⟩
        have hPut := rrPut (m := { m with l := remC m.l i }) (d := q.1) (x := q.2 + x) H2 S2.tidy (by show (remC m.l i).length ≤ 8192; omega) hGP.out (by omega) (by omega) (by omega)
        clear H2 hG2 hRm hPl hFt
        go_wp2_with fail
        refine hPut.mono ?_
        rintro e w3 ⟨rfl, col3, H3, S3⟩
        have HD := Lib.hid (show DidRR col k _ g { m with l := putR (remC m.l i) q.1 (q.2 + x) } w3 from ⟨col3, H3, S2.trans S3⟩)
        clear H3 hPut S2 S3
        go_wp2
        go_ret
        rw [E.out]
        exact ⟨rfl, HD.out⟩
      · rw [if_neg h0] at E0
        have E := Lib.hid E0
        obtain rfl : x = 0 := by omega
        clear H1 hG hGI hp hq hq1 hGR EV ER hvV E0 hf hRm
        go_enter Tryd.func20, Tryd.ntmps20
        go_wp2_with fail
        refine hPl.mono ?_
        rintro e w1 ⟨rfl, rfl⟩
        rw [HP.out]
        go_wp2_with fail
        refine hFt.mono ?_
        rintro e w1 ⟨rfl, hw1⟩
        subst hw1
        go_wp2
        go_ret
        rw [E.out]
        exact ⟨rfl, hSt.out⟩
    · rw [if_neg hf] at E0
      have hf2 : fitsB q.2 x = false := by cases h : fitsB q.2 x with | true => exact absurd h hf | false => rfl
      rw [hf2] at hFt
      have E := Lib.hid E0
      clear H1 hG hGI hp hq hq1 hGR EV ER hvV E0 hf hf2 hRm
      go_enter Tryd.func20, Tryd.ntmps20
      go_wp2_with fail
      refine hPl.mono ?_
      rintro e w1 ⟨rfl, rfl⟩
      rw [HP.out]
      go_wp2_with fail
      refine hFt.mono ?_
      rintro e w1 ⟨rfl, hw1⟩
      subst hw1
      go_wp2
      go_ret
      rw [E.out]
      exact ⟨rfl, hSt.out⟩
end
end Go.Proofs.YtopjnalehllgcaaDoor
