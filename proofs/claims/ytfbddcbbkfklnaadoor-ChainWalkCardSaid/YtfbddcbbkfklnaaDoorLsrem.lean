/- The program's lists of string values: Remove. Conditions: none beyond those typed. -/
import Derived.Test.YtfbddcbbkfklnaaDoorLsins
namespace Go.Proofs.YtfbddcbbkfklnaaDoor
open Go.ChangeShapes Go.WideShapes Go.ChangeAt Go.RowKit
set_option linter.unusedVariables false
set_option linter.unusedSimpArgs false
set_option maxRecDepth 100000

section
variable {P' : Nat → Prop} {col col' : Col} {w w' : World} {k g n u b N c nu cu x : Nat} {Au : Option Addr} {P : List (Pn ByteArray)} {U : List Nat} {i : Nat} {r : Pn ByteArray} {m : CSt ByteArray}
/-- A place is cleared. -/
theorem Lxs.zero (h : Lxs col k w g n u P b N c U Au nu cu) (ht : Tidy col w) (hr : P[i]? = some r) :
    Lxs col k (((w.setCell ⟨b, i * 3, none⟩ (.int .i64 0)).setCell ⟨b, i * 3 + 1, none⟩ (.int .i64 0)).setCell ⟨b, i * 3 + 2, none⟩ ((fun z : ByteArray => Value.string z) (⟨#[]⟩ : ByteArray))) g n u (P.set i (0, 0, (⟨#[]⟩ : ByteArray))) b N c U Au nu cu ∧
      StepC (Rng k) col w col (((w.setCell ⟨b, i * 3, none⟩ (.int .i64 0)).setCell ⟨b, i * 3 + 1, none⟩ (.int .i64 0)).setCell ⟨b, i * 3 + 2, none⟩ ((fun z : ByteArray => Value.string z) (⟨#[]⟩ : ByteArray))) := by
  have hi := (List.getElem?_eq_some_iff.1 hr).1
  obtain ⟨h1, s1⟩ := h.put ht hr (j := 0) (v := .int .i64 0) (r' := (0, r.2)) (by omega) rfl
  rw [Nat.add_zero] at h1 s1
  obtain ⟨h2, s2⟩ := h1.put s1.tidy (r := (0, r.2)) (by rw [List.getElem?_set, if_pos rfl, if_pos hi]) (j := 1) (v := .int .i64 0) (r' := (0, 0, r.2.2)) (by omega) rfl
  rw [List.set_set] at h2
  obtain ⟨h3, s3⟩ := h2.put s2.tidy (r := (0, 0, r.2.2)) (by rw [List.getElem?_set, if_pos rfl, if_pos hi]) (j := 2) (v := (fun z : ByteArray => Value.string z) (⟨#[]⟩ : ByteArray)) (r' := (0, 0, (⟨#[]⟩ : ByteArray))) (by omega) rfl
  rw [List.set_set] at h3
  exact ⟨h3, ((s1.trans s2).trans s3).mono fun c e => ⟨by omega, by omega⟩⟩
/-- What is left is the bit and the number of nodes. -/
theorem Lxs.drop (H : Lxs col' k w' g n u P b N c U Au nu cu) (hs : StepC (Rng k) col w col' w') (hi : x / 64 = i) (hin : i < nu) (hU : ∀ u ∈ U, u < 18446744073709551616) (u1 : Nat) :
    ∃ bu u0 y : Nat, Au = some ⟨bu, 0, none⟩ ∧ w'.cell? ⟨g, 3, none⟩ = some (.slice (some ⟨bu, 0, none⟩) nu cu) ∧ w'.cell? ⟨bu, i, none⟩ = some (.int .u64 (u0 : Int)) ∧ bits .andNot .u64 (u0 : Int) ((2 ^ (x % 64) : Nat) : Int) = (y : Int) ∧ w'.frozen? ⟨bu, i, none⟩ = false ∧
      ∀ j, ((w'.drewN j).setCell ⟨bu, i, none⟩ (.int .u64 (y : Int))).cell? ⟨g, 1, none⟩ = some (.int .i64 u) ∧ ((w'.drewN j).setCell ⟨bu, i, none⟩ (.int .u64 (y : Int))).frozen? ⟨g, 1, none⟩ = false ∧
        Lxs col' k (((w'.drewN j).setCell ⟨bu, i, none⟩ (.int .u64 (y : Int))).setCell ⟨g, 1, none⟩ (.int .i64 (u1 : Int))) g n u1 P b N c (delB U x) Au nu cu ∧
        StepC (Rng k) col w col' (((w'.drewN j).setCell ⟨bu, i, none⟩ (.int .u64 (y : Int))).setCell ⟨g, 1, none⟩ (.int .i64 (u1 : Int))) := by
  obtain ⟨bu, rfl, hc, fz⟩ := H.word hin
  have hb := getD_lt hU i
  refine ⟨bu, U.getD i 0, U.getD i 0 &&& (18446744073709551615 - 2 ^ (x % 64)), rfl, H.c3, hc, u64_andNot_nat _ _ hb (pow_lt64 (Nat.mod_lt _ (by decide))), fz i, fun j => ?_⟩
  have ht := hs.tidy
  have H2 := H.drewN ht j
  have ht2 : Tidy col' (w'.drewN j) := ht
  have s2 : StepC (Rng k) col' w' col' (w'.drewN j) := StepC.below ht (below_drewN (Below.refl _ _) j)
  obtain ⟨H3, s3⟩ := H2.putU ht2 hin (U.getD i 0 &&& (18446744073709551615 - 2 ^ (x % 64)))
  obtain ⟨H4, s4⟩ := H3.cnt s3.tidy u1
  refine ⟨H3.c1, H3.box.free 1, ?_, ((hs.trans s2).trans (s3.mono fun c e => ⟨by omega, by omega⟩)).trans (s4.mono fun c e => ⟨by omega, by omega⟩)⟩
  unfold delB
  rw [hi]
  exact H4
set_option maxHeartbeats 4000000 in
theorem lrems_any (H : PLs col k w g m) (ht : Tidy col w) {z : Int} (hz : J64 z) :
    Calls Tryd.prog 12 #[.pointer (some ⟨g, 0, none⟩), .int .i64 z] w fun e w' => e = .returned (.tuple #[(fun z : ByteArray => Value.string z) (m.value (⟨#[]⟩ : ByteArray) z).1, .int .i64 (m.value (⟨#[]⟩ : ByteArray) z).2]) ∧ DidPL PLs col k w g (m.rem z) w' := by
  have H0 := H
  have hVl := lvalues_any H ht hz
  have HB : ∀ j, PLs col k (w.drewN j) g m := fun j => H.below ht (below_drewN (Below.refl _ _) j)
  have hSB : ∀ j, StepC (Rng k) col w col (w.drewN j) := fun j => StepC.below ht (below_drewN (Below.refl _ _) j)
  have hPr := fun j => lprevs_any (HB j) ht hz
  have hNx := fun j => lnexts_any (HB j) ht hz
  obtain ⟨P, b, N, c, U, Au, nu, cu, M, R⟩ := H
  cases hp : placeC m.l z with
  | none =>
    have hV : m.value (⟨#[]⟩ : ByteArray) z = ((⟨#[]⟩ : ByteArray), 8) := by unfold CSt.value; rw [hp]
    have hR : m.rem z = m := by unfold CSt.rem; rw [hp]
    rw [hV] at hVl ⊢
    rw [hR]
    have HD := Lib.hid (show ∀ j, DidPL PLs col k w g m (w.drewN j) from fun j => ⟨col, HB j, hSB j⟩)
    clear hPr hNx M R HB hSB hV hR H0
    go_enter Tryd.func12, Tryd.ntmps12
    go_wp2_with fail
    refine hVl.mono ?_
    rintro e w1 ⟨rfl, j, rfl⟩
    go_wp2
    go_ret2
    exact ⟨rfl, HD.out j⟩
  | some i =>
    have hN1' := R.next hp
    have hP1' := R.prev hp
    obtain ⟨q, rfl, hqP, hqU, hi, hr⟩ := R.on hp
    obtain ⟨p, hp1, hp2, _⟩ := place_some hp
    have hV : m.value (⟨#[]⟩ : ByteArray) (q : Int) = (p.2, 0) := by unfold CSt.value; rw [hp]; show (((m.l[i]?).map Prod.snd).getD _, (0 : Int)) = _; rw [hp1]; rfl
    obtain ⟨RR, _, _⟩ := R.rem hp (⟨#[]⟩ : ByteArray)
    have hlen : (m.rem (q : Int)).l.length + 1 = m.l.length := by
      unfold CSt.rem; rw [hp]; show (remC m.l i).length + 1 = _; unfold remC; rw [List.length_append, List.length_take, List.length_drop]; omega
    have hmn : (m.rem (q : Int)).n = m.n := by unfold CSt.rem; rw [hp]
    have e1 : m.by_ (q : Int) (-1) = rg m.nodes i := by
      have h1 := (R.ring i (by omega)).2
      rw [hr, hP1'] at h1
      injection h1
    have e2 : m.by_ (q : Int) 1 = rg m.nodes (i + 2) := by
      have h1 := (R.ring (i + 1) (by omega)).1
      rw [hr, hN1'] at h1
      injection h1
    obtain ⟨_, _, _, hla⟩ := nN_place (R.ring i (by omega)).1
    obtain ⟨_, _, _, hld⟩ := pN_place (R.ring (i + 1) (by omega)).2
    have hga := rg_ge m.nodes i
    have hgd := rg_ge m.nodes (i + 2)
    have hlP := M.len
    have hlU := M.lenU
    have hN8 := R.lenN
    have hn8 := R.good.n8
    have hgl := R.good.len
    rw [hV] at hVl ⊢
    obtain ⟨F, hF⟩ : ∃ F, p.2 = F := ⟨_, rfl⟩
    rw [hF] at hVl ⊢
    rw [e1] at hPr
    rw [e2] at hNx
    rw [show i + 1 + 1 = i + 2 from rfl] at hld
    have RI := Lib.hid RR
    obtain ⟨a, ha⟩ : ∃ a, rg m.nodes i = a := ⟨_, rfl⟩
    obtain ⟨d, hd⟩ : ∃ d, rg m.nodes (i + 2) = d := ⟨_, rfl⟩
    rw [ha] at hPr hga hla RI
    rw [hd] at hNx hgd hld RI
    obtain ⟨X, hX⟩ : ∃ X, q + 1 = X := ⟨_, rfl⟩
    have hwX : IntKind.i64.wrap ((q : Int) + 1) = (X : Int) := by rw [IntKind.wrap_i64]; omega
    rw [hX] at RI
    obtain ⟨y, hy⟩ : ∃ y, q / 64 = y := ⟨_, rfl⟩
    have hw2 : (q : Int).tdiv 64 = (y : Int) := by rw [Int.tdiv_eq_ediv_of_nonneg (by omega)]; omega
    have hw3 : IntKind.i64.wrap (y : Int) = (y : Int) := by rw [IntKind.wrap_i64]; omega
    obtain ⟨u1, hu1⟩ : ∃ u1, (m.rem (q : Int)).l.length = u1 := ⟨_, rfl⟩
    have hwu : IntKind.i64.wrap ((m.l.length : Int) - 1) = (u1 : Int) := by rw [IntKind.wrap_i64]; omega
    have hyI : (y : Int) < (nu : Int) := by omega
    have hbS := fun W : World => (bit_any q (by omega) W).mono (R' := fun e w' => e = .returned (.int .u64 ((2 ^ (q % 64) : Nat) : Int)) ∧ w' = W) fun e w' h => ⟨h.1, h.2.symm⟩
    have hUb := Lib.hid R.big
    have HM := fun j => M.drewN ht j
    obtain ⟨bu, rfl, _⟩ := M.word (i := y) (by omega)
    clear hN1' hP1' hr hi hp hp1 hp2 hV hF R RR e1 e2 HB M H0 ha hd
    go_enter Tryd.func12, Tryd.ntmps12
    go_wp2_with fail
    refine hVl.mono ?_
    rintro e w1 ⟨rfl, j1, rfl⟩
    clear hVl
    go_wp2_with fail
    refine (hPr _).mono ?_
    rintro e w2 ⟨rfl, j2, rfl⟩
    clear hPr
    rw [World.drewN_drewN]
    go_wp2_with fail
    refine (hNx _).mono ?_
    rintro e w3 ⟨rfl, j3, rfl⟩
    clear hNx
    rw [World.drewN_drewN]
    have M1 := HM (j1 + j2 + j3)
    have S1 := hSB (j1 + j2 + j3)
    clear HM hSB
    have J1 := ljoins_any M1 S1.tidy hga hgd (by omega) (by omega) (by omega)
    clear M1
    go_wp2_with fail
    refine J1.mono ?_
    rintro e w4 ⟨rfl, M2, s2⟩
    have S2 := S1.trans s2
    clear J1 s2 S1
    have hP3 : X < (joinP P a d).length := by rw [join_len]; omega
    obtain ⟨q3, hq3⟩ : ∃ q, (joinP P a d)[X]? = some q := ⟨_, List.getElem?_eq_getElem hP3⟩
    have y2 := M2.c2
    obtain ⟨hcp1, hcm1⟩ := M2.cap
    obtain ⟨z0, z1, z2, fz3⟩ := M2.at_ hq3
    have fz := fz3 (X * 3)
    have fz' := fz3 (X * 3 + 1)
    have fz'' := fz3 (X * 3 + 2)
    have hXI : (X : Int) < (N : Int) := by omega
    obtain ⟨M3, s3⟩ := M2.zero S2.tidy hq3
    have S3 := S2.trans s3
    obtain ⟨bu2, u0, y0, hAu, r3, rc, hor, frz, HT⟩ := M3.drop S3 hy (by omega) hUb.out u1
    injection hAu with hAu
    injection hAu with hAu
    subst hAu
    obtain ⟨t1, tf, M5, S5⟩ := HT 1
    have HD := Lib.hid (show DidPL PLs col k w g (m.rem (q : Int)) _ from ⟨_, ⟨_, b, N, c, _, some ⟨bu, 0, none⟩, nu, cu, by rw [hmn, hu1]; exact M5, RI.out⟩, S5⟩)
    clear HT M2 M3 M5 S2 S3 S5 s3 hq3 hP3 RI
    go_wp2
    generalize ((w4.setCell _ _).setCell _ _).setCell _ _ = W5 at *
    generalize 2 ^ (q % 64) = B at hor hbS
    have t1' : (W5.setCell ⟨bu, y, none⟩ (.int .u64 (y0 : Int))).cell? ⟨g, 1, none⟩ = some (.int .i64 (m.l.length : Int)) := t1
    have tf' : (W5.setCell ⟨bu, y, none⟩ (.int .u64 (y0 : Int))).frozen? ⟨g, 1, none⟩ = false := tf
    clear t1 tf z0 z1 z2 fz fz' fz'' fz3 y2
    go_still_tail 12, (by kernel_rfl)
    still_call (hbS _)
    repeat still_step
    refine wpStill_nil ?_
    change wpList _ _ _ _ _ (World.drew _)
    go_wp2
    go_ret2
    exact ⟨rfl, HD.out⟩
end
end Go.Proofs.YtfbddcbbkfklnaaDoor
