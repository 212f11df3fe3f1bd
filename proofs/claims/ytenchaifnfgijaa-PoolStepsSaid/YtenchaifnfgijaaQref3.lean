/- The specified pool in memory: New, Release. Conditions: none beyond those typed. -/
import Derived.Test.YtenchaifnfgijaaQref2
namespace Go.Proofs.Ytenchaifnfgijaa
open Go.ChangeShapes Go.WideShapes Go.ChangeAt Go.RowKit
set_option linter.unusedVariables false
set_option linter.unusedSimpArgs false
set_option maxRecDepth 100000

section
variable {P : Nat → Prop} {col col' : Col} {w w' : World} {k ka g ga : Nat} {q : PSt} {x : ASt} {bK cK bU cU bH cH : Nat}
theorem ks_mod {e : List PEn} {i : Nat} {f : PEn → PEn} (hf : ∀ y : PEn, (f y).k = y.k) : ksR (e.modify i f) = ksR e := by
  unfold ksR
  congr 1
  apply List.ext_getElem?
  intro j
  rw [List.getElem?_map, List.getElem?_map, List.getElem?_modify]
  cases e[j]? with
  | none => rfl
  | some y => by_cases h : i = j <;> simp [h, hf]
theorem hs_mod {e : List PEn} {i : Nat} {f : PEn → PEn} (hf : ∀ y : PEn, (f y).h = y.h) : hsR (e.modify i f) = hsR e := by
  unfold hsR
  congr 1
  apply List.ext_getElem?
  intro j
  rw [List.getElem?_map, List.getElem?_map, List.getElem?_modify]
  cases e[j]? with
  | none => rfl
  | some y => by_cases h : i = j <;> simp [h, hf]
theorem us_mod {e : List PEn} {i : Nat} {f : PEn → PEn} {y : PEn} (hy : e[i]? = some y) : usR (e.modify i f) = (usR e).set (i + 1) ((f y).u : Int) := by
  unfold usR
  rw [List.set_cons_succ]
  congr 1
  apply List.ext_getElem?
  intro j
  have hl := (List.getElem?_eq_some_iff.1 hy).1
  rw [List.getElem?_set, List.getElem?_map, List.getElem?_map, List.getElem?_modify, List.length_map]
  by_cases h : i = j
  · subst h
    obtain ⟨_, rfl⟩ := List.getElem?_eq_some_iff.1 hy
    simp [hl]
  · simp [h]
/-- A number's users are written. -/
theorem RefQB.setU (h : RefQB col k w g ga q bK cK bU cU bH cH) (ht : Tidy col w) {i : Nat} {y : PEn} (hy : q.e[i]? = some y) {f : PEn → PEn} (hk : ∀ y : PEn, (f y).k = y.k) (hh : ∀ y : PEn, (f y).h = y.h) {z : Int} (hz : z = ((f y).u : Int)) (t : Nat) :
    RefQB col k (w.setCell ⟨bU, i + 1, none⟩ (.int .i64 z)) g ga { q with e := q.e.modify i f, t := t } bK cK bU cU bH cH ∧ StepC (Rng k) col w col (w.setCell ⟨bU, i + 1, none⟩ (.int .i64 z)) := by
  have hc := h.us.col.of
  have hs : StepC (fun c => c = k + 2) col w col (w.setCell ⟨bU, i + 1, none⟩ (.int .i64 z)) := StepC.set ht hc _
  have he : (usR q.e)[i + 1]? = some (y.u : Int) := by simp [usR, hy]
  have h2 := h.us.set (j := i + 1) (i := 0) (a' := z) (u := .int .i64 z) he K_one rfl
  rw [show (i + 1) * kI.k + 0 = i + 1 by simp [kI], hz, ← us_mod hy, ← hz] at h2
  have hb := h.box.keep hs (by omega)
  have h1 := h.ks.keep hs (by omega)
  have h3 := h.hs.keep hs (by omega)
  have hl : (q.e.modify i f).length = q.e.length := by simp
  refine ⟨⟨?_, ?_, ?_, ?_, h.k1⟩, hs.mono fun c e => by subst e; exact ⟨by omega, by omega⟩⟩
  · simp only [hl]; exact hb
  · simp only [hl, ks_mod hk]; exact h1
  · simp only [hl]; exact h2
  · simp only [hl, hs_mod hh]; exact h3
theorem RefQB.time (h : RefQB col k w g ga q bK cK bU cU bH cH) (t : Nat) : RefQB col k w g ga { q with t := t } bK cK bU cU bH cH := ⟨h.box, h.ks, h.us, h.hs, h.k1⟩
def DidRQ (col : Col) (k ka : Nat) (w : World) (g ga : Nat) (q : PSt) (x : ASt) (w' : World) : Prop := ∃ col', RefQ col' k w' g ga q ∧ RefA col' ka w' ga x ∧ StepC (fun c => Rng k c ∨ Rng ka c) col w col' w'
/-- Two objects side by side. -/
def Apart (k ka : Nat) : Prop := 1 ≤ k ∧ 1 ≤ ka ∧ (k + 16 ≤ ka ∨ ka + 16 ≤ k)
theorem Apart.no (h : Apart k ka) : ∀ c, Rng k c → ¬ Rng ka c := fun c h1 h2 => by
  obtain ⟨_, _, h3⟩ := h
  have h4 := h1.1
  have h5 := h1.2
  have h6 := h2.1
  have h7 := h2.2
  omega
theorem Apart.symm (h : Apart k ka) : Apart ka k := ⟨h.2.1, h.1, h.2.2.symm⟩
theorem Apart.z1 (h : Apart k ka) : ¬ Rng k 0 := fun h1 => by have := h.1; have := h1.1; omega
theorem Apart.z2 (h : Apart k ka) : ¬ Rng ka 0 := fun h1 => by have := h.2.1; have := h1.1; omega
theorem Apart.z (h : Apart k ka) : ¬ (Rng k 0 ∨ Rng ka 0) := fun h1 => h1.elim h.z1 h.z2
theorem RefA.below' (h : RefA col k w g x) (ht : Tidy col w) (hb : Below w.heap.size w w') : RefA col k w' g x := h.keep (P := fun _ => False) (StepC.below ht hb) (fun _ _ h => h) (fun h => h)
theorem rng_l {k ka : Nat} : ∀ c, Rng k c → (Rng k c ∨ Rng ka c) := fun _ h => .inl h
theorem rng_r {k ka : Nat} : ∀ c, Rng ka c → (Rng k c ∨ Rng ka c) := fun _ h => .inr h
set_option maxHeartbeats 1000000 in
theorem rqRelease (H : RefQ col k w g ga q) (HA : RefA col ka w ga x) (hap : Apart k ka) (ht : Tidy col w) (hlt : x.t ≤ 1000000000) (hqt : q.t ≤ 1000000000) (id : Int) (hid : I64 id) :
    Calls Try.prog 22 #[.pointer (some ⟨g, 0, none⟩), .int .i64 id] w fun e w' => e = .returned (.int .i64 (q.release id).1) ∧ DidRQ col k ka w g ga (q.release id).2 (q.reR x id) w' := by
  have HR := H
  obtain ⟨hG, bK, cK, bU, cU, bH, cH, H⟩ := H
  have hGF := hG.release id
  have hlen := hG.len
  have hn8 := hG.n8
  obtain ⟨⟨q1, q2⟩, ⟨q3, q4⟩, ⟨q5, q6⟩⟩ := H.caps
  have x2 := H.c2
  have x3 := H.c3
  obtain ⟨i1, i2⟩ := hid
  have gone : q.at id = none → ∀ w', Below w.heap.size w w' → q.release id = (8, q.tick) ∧ q.reR x id = x ∧ DidRQ col k ka w g ga (q.release id).2 (q.reR x id) w' := fun h w' hb => by
    have e1 : q.release id = (8, q.tick) := by unfold PSt.release; rw [h]
    have e2 : q.reR x id = x := by unfold PSt.reR; rw [h]
    refine ⟨e1, e2, ?_⟩
    rw [e1] at hGF
    rw [e1, e2]
    exact ⟨col, ⟨hGF, _, _, _, _, _, _, (H.below ht hb).time _⟩, HA.below' ht hb, StepC.below ht hb⟩
  rcases at_ways q id with h1 | h1 | ⟨i, y, rfl, hy, hi⟩
  · have HP := Lib.hid (gone (at_neg h1))
    clear H gone
    go_enter Try.func22, Try.ntmps22
    go_wp2
    go_ret
    obtain ⟨e1, _, h⟩ := HP.out w (Below.refl _ _)
    exact ⟨ret_i64 (by rw [e1]), h⟩
  · have HP := Lib.hid (gone (at_big h1))
    have h2 : ¬ id < 1 := by omega
    have h3 : (q.e.length : Int) + 1 ≤ id := by omega
    clear H gone
    go_enter Try.func22, Try.ntmps22
    go_wp2
    go_ret
    obtain ⟨e1, _, h⟩ := HP.out w (Below.refl _ _)
    exact ⟨ret_i64 (by rw [e1]), h⟩
  · have y3 := H.cu hy
    have f3 := H.us.own.free (i + 1)
    obtain ⟨u, hu2⟩ : ∃ u : Int, (y.u : Int) = u := ⟨_, rfl⟩
    obtain ⟨j, hj⟩ : ∃ j : Nat, i + 1 = j := ⟨_, rfl⟩
    obtain ⟨N, hN⟩ : ∃ N : Nat, q.e.length + 1 = N := ⟨_, rfl⟩
    have hji : (i : Int) + 1 = (j : Int) := by omega
    have h2 : ¬ (j : Int) < 1 := by omega
    have h3 : ¬ (N : Int) ≤ (j : Int) := by omega
    have h4 : (j : Int) < (N : Int) := by omega
    rw [hji] at gone hGF i1 i2 ⊢
    rw [hj] at y3 f3
    rw [hN] at x2 x3 q1 q3 q5
    by_cases hu : 0 < y.u
    · have hat := at_is (q := q) (id := (j : Int)) (by omega) hy hu
      have hup := hG.ut y (List.mem_of_getElem? hy)
      have hu3 : (u == 0) = false := by rw [beq_eq_false_iff_ne]; omega
      have hb1 : -9223372036854775808 ≤ u - 1 := by omega
      have hb2 : u - 1 ≤ 9223372036854775807 := by omega
      obtain ⟨H1, S1⟩ := H.setU ht hy (f := PEn.down) (fun _ => rfl) (fun _ => rfl) (z := u - 1) (by simp only [PEn.down]; omega) (q.t + 1)
      have ht1 := S1.tidy
      have HA1 := HA.keep S1 (fun c h1 h2 => hap.no c h2 h1) hap.z1
      have hl : (q.e.modify i PEn.down).length = q.e.length := by simp
      have E1 := Lib.hid (show q.release (j : Int) = (0, q.less i) by unfold PSt.release; rw [hat])
      have E2 := Lib.hid (show q.reR x (j : Int) = if y.u = 1 then (x.free y.h).2 else x by unfold PSt.reR; rw [hat])
      have z0 := H1.c0
      have z3 := H1.c3
      have z4 := H1.c4
      simp only [hl, hN] at z3 z4
      have hz : (q.e.modify i PEn.down)[i]? = some y.down := by rw [List.getElem?_modify]; simp [hy]
      have zu := H1.cu hz
      obtain ⟨zh0, zh1, zh2⟩ := H1.ch hz
      have hzu : ((y.down.u : Nat) : Int) = u - 1 := by simp only [PEn.down]; omega
      have hhd : y.down.h = y.h := rfl
      have HH1 := Lib.hid H1
      rw [hzu] at zu
      rw [hhd] at zh0 zh1 zh2
      rw [hj] at zu zh0 zh1 zh2 S1 HA1 ht1 z0 z3 z4 HH1
      rw [hu2] at y3
      by_cases hu1 : y.u = 1
      · have hv : (u - 1 == 0) = true := by rw [beq_iff_eq]; omega
        have E2' := Lib.hid (E2.out.trans (if_pos hu1))
        clear H gone E2 hat hz hhd hl hu hu2 hzu hu1 H1 hN hji hj hi hlen
        go_enter Try.func22, Try.ntmps22
        go_wp2
        obtain ⟨W3, hW3⟩ : ∃ W3, W3 = w.setCell ⟨bU, j, none⟩ (.int .i64 (u - 1)) := ⟨_, rfl⟩
        rw [← hW3] at HH1 S1 ht1 HA1 z0 z3 z4 zu zh0 zh1 zh2 ⊢
        clear hW3
        have hHA := HA1.below' ht1 (Below.refl _ _).drew
        have hS : W3.cell? ⟨g, 0, none⟩ = some (.pointer (some ⟨ga, 0, none⟩)) ∧ W3.cell? ⟨g, 4, none⟩ = some (.slice (some ⟨bH, 0, none⟩) N cH) ∧ W3.cell? ⟨bH, j * 3, none⟩ = some (.int .i64 y.h.1) ∧ W3.cell? ⟨bH, j * 3 + 1, none⟩ = some (.int .i64 y.h.2.1) ∧ W3.cell? ⟨bH, j * 3 + 2, none⟩ = some (.int .i64 y.h.2.2) := ⟨z0, z4, zh0, zh1, zh2⟩
        have hn1 : ¬ Rng ka (col g) := by rw [HH1.out.box.col]; exact hap.no _ ⟨Nat.le_refl _, by omega⟩
        have hn2 : ¬ Rng ka (col bH) := by rw [HH1.out.hs.col.of]; exact hap.no _ ⟨by omega, by omega⟩
        have hSk : ∀ (col4 : Col) (w4 : World), StepC (Rng ka) col W3 col4 w4 → (w4.cell? ⟨g, 0, none⟩ = some (.pointer (some ⟨ga, 0, none⟩)) ∧ w4.cell? ⟨g, 4, none⟩ = some (.slice (some ⟨bH, 0, none⟩) N cH) ∧ w4.cell? ⟨bH, j * 3, none⟩ = some (.int .i64 y.h.1) ∧ w4.cell? ⟨bH, j * 3 + 1, none⟩ = some (.int .i64 y.h.2.1) ∧ w4.cell? ⟨bH, j * 3 + 2, none⟩ = some (.int .i64 y.h.2.2)) := fun _ _ h => ⟨h.cell z0 hn1, h.cell z4 hn1, h.cell zh0 hn2, h.cell zh1 hn2, h.cell zh2 hn2⟩
        clear hn1 hn2
        go_region_held3 (fun w' => w'.cell? ⟨g, 0, none⟩ = some (.pointer (some ⟨ga, 0, none⟩)) ∧ w'.cell? ⟨g, 4, none⟩ = some (.slice (some ⟨bH, 0, none⟩) N cH) ∧ w'.cell? ⟨bH, j * 3, none⟩ = some (.int .i64 y.h.1) ∧ w'.cell? ⟨bH, j * 3 + 1, none⟩ = some (.int .i64 y.h.2.1) ∧ w'.cell? ⟨bH, j * 3 + 2, none⟩ = some (.int .i64 y.h.2.2)) (first | exact hS | exact hS4)
          (first | (go_at_call 37; refine (arFree hHA ht1 y.h hlt).mono ?_; rintro e4 w4 ⟨rfl, col4, HA4, S4⟩; have S4' : StepC (Rng ka) col W3 col4 w4 := (StepC.drew ht1).trans S4; have hS4 := hSk col4 w4 S4'))
        all_goals
          go_wp2
          go_ret
          rw [E1.out] at hGF ⊢
          rw [E2'.out]
          exact ⟨rfl, col4, ⟨hGF, _, _, _, _, _, _, HH1.out.keep S4' hap.no⟩, HA4, (S1.mono rng_l).trans (S4'.mono rng_r)⟩
      · have hv : (u - 1 == 0) = false := by rw [beq_eq_false_iff_ne]; omega
        have E2' := Lib.hid (E2.out.trans (if_neg hu1))
        clear H gone E2 hat hz hhd hl hu hu2 hzu hu1 H1 zh0 zh1 zh2 z4 hN hji hj hi hlen
        go_enter Try.func22, Try.ntmps22
        go_wp2
        go_ret
        rw [E1.out] at hGF ⊢
        rw [E2'.out]
        exact ⟨rfl, col, ⟨hGF, _, _, _, _, _, _, HH1.out⟩, HA1, S1.mono rng_l⟩
    · have HP := Lib.hid (gone (at_dead (by omega) hy hu))
      have hu3 : u = 0 := by omega
      subst hu3
      rw [hu2] at y3
      clear H gone hu hu2
      go_enter Try.func22, Try.ntmps22
      go_wp2
      go_ret
      obtain ⟨e1, _, h⟩ := HP.out w (Below.refl _ _)
      exact ⟨ret_i64 (by rw [e1]), h⟩
end
end Go.Proofs.Ytenchaifnfgijaa
