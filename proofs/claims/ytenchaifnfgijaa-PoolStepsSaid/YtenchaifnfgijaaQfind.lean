/- The program's pool in memory: has, Find, Len, Text, New. Conditions: none beyond those typed. -/
import Derived.Test.YtenchaifnfgijaaQbox
import Derived.Test.YtenchaifnfgijaaPw
import Derived.Test.YtenchaifnfgijaaEconv
namespace Go.Proofs.Ytenchaifnfgijaa
open Go.ChangeShapes Go.WideShapes Go.ChangeAt Go.RowKit
set_option linter.unusedVariables false
set_option linter.unusedSimpArgs false
set_option maxRecDepth 100000

/-- The program's pool q lies in block g, over the arena in block ga. -/
def PqR (col : Col) (k : Nat) (w : World) (g ga : Nat) (q : PSt) : Prop := GoodQ q ∧ ∃ b D vN vF, PqB col k w g ga q b D vN vF
section
variable {P : Nat → Prop} {col col' : Col} {w w' : World} {k ka g ga b : Nat} {q : PSt} {x : ASt} {D : DataW Unit} {vN vF : Value}
theorem PqR.keep (h : PqR col k w g ga q) (hs : StepC P col w col' w') (hp : ∀ c, Rng k c → ¬ P c) : PqR col' k w' g ga q := by
  obtain ⟨hG, _, _, _, _, h⟩ := h
  exact ⟨hG, _, _, _, _, h.keep hs hp⟩
set_option maxHeartbeats 1000000 in
theorem pqHas (hG : GoodQ q) (H : PqB col k w g ga q b D vN vF) (id : Int) (hid : I64 id) (hqt : q.t ≤ 1000000000) :
    Calls Try.prog 33 #[.pointer (some ⟨g, 0, none⟩), .int .i64 id] w fun e w' => e = .returned (.bool (q.at id).isSome) ∧ w = w' := by
  have hlen := hG.len
  have hn8 := hG.n8
  have x3 := H.c3
  obtain ⟨A, m, hv, hm1, hm2, hA⟩ := H.formN
  obtain ⟨i1, i2⟩ := hid
  obtain ⟨N, hN⟩ : ∃ N : Nat, q.e.length = N := ⟨_, rfl⟩
  rcases at_ways q id with h1 | h1 | ⟨i, y, rfl, hy, hi⟩
  · have HP := Lib.hid (show (q.at id).isSome = false by rw [at_neg h1]; rfl)
    clear H hA
    go_enter Try.func33, Try.ntmps33
    go_wp2
    go_ret
    exact ⟨by rw [HP.out]; rfl, rfl⟩
  · have HP := Lib.hid (show (q.at id).isSome = false by rw [at_big h1]; rfl)
    rw [hv, hN] at x3
    rw [hN] at h1 hm1
    by_cases h2 : 1 ≤ id
    · have h3 : ¬ id ≤ (N : Int) := by omega
      clear H hA
      go_enter Try.func33, Try.ntmps33
      go_wp2
      go_ret
      exact ⟨by rw [HP.out]; rfl, rfl⟩
    · clear H hA
      go_enter Try.func33, Try.ntmps33
      go_wp2
      go_ret
      exact ⟨by rw [HP.out]; rfl, rfl⟩
  · obtain ⟨xb, rfl, hxb, _⟩ := hA (by omega)
    obtain ⟨_, _, _, y3, _⟩ := H.node hv hy
    have hup := hG.ut y (List.mem_of_getElem? hy)
    rw [hv, hN] at x3
    rw [hN] at hi hm1
    obtain ⟨J, hJ⟩ : ∃ J : Int, (i : Int) + 1 = J := ⟨_, rfl⟩
    have h2 : 1 ≤ J := by omega
    have h3 : J ≤ (N : Int) := by omega
    have h4 : J - 1 = (i : Int) := by omega
    have h5 : (i : Int) < (N : Int) := by omega
    have h6 : IntKind.i64.wrap (J - 1) = (i : Int) := by rw [IntKind.wrap_i64]; omega
    by_cases hu : 0 < y.u
    · have HP := Lib.hid (show (q.at ((i : Int) + 1)).isSome = true by rw [at_is (by omega) hy hu]; rfl)
      rw [node_live hu] at y3
      rw [hJ] at HP ⊢
      have hu2 : (0 : Int) < (y.u : Int) := by omega
      clear H hA hJ hN hv
      go_enter Try.func33, Try.ntmps33
      go_wp2
      go_ret
      exact ⟨by rw [HP.out]; rfl, rfl⟩
    · have HP := Lib.hid (show (q.at ((i : Int) + 1)).isSome = false by rw [at_dead (by omega) hy hu]; rfl)
      rw [node_dead hu] at y3
      rw [hJ] at HP ⊢
      clear H hA hJ hN hv
      go_enter Try.func33, Try.ntmps33
      go_wp2
      go_ret
      exact ⟨by rw [HP.out]; rfl, rfl⟩
set_option maxHeartbeats 1000000 in
theorem pqFind (H : PqR col k w g ga q) (ht : Tidy col w) (s : ByteArray) (hs : s.size ≤ maxLen) (hqt : q.t ≤ 1000000000) :
    Calls Try.prog 15 #[.pointer (some ⟨g, 0, none⟩), .string s] w fun e w' => e = .returned (.tuple #[.int .i64 (q.look s).1, .int .i64 (q.look s).2]) ∧ Below w.heap.size w w' := by
  obtain ⟨hG, b, D, vN, vF, H⟩ := H
  have hlen := hG.len
  have hn8 := hG.n8
  have x2 := H.c2
  have x3 := H.c3
  obtain ⟨A, m, hv, hm1, hm2, hA⟩ := H.formN
  obtain ⟨N, hN⟩ : ∃ N : Nat, q.e.length = N := ⟨_, rfl⟩
  cases hf : findE q.e s with
  | none =>
    have hrun := H.ids.look_no H.rel hs hf
    have HL := Lib.hid (show q.look s = (0, 0) by unfold PSt.look; rw [show q.find s = findE q.e s from rfl, hf])
    clear H hA
    go_enter Try.func15, Try.ntmps15
    go_wp2
    go_ret2
    exact ⟨by rw [HL.out]; rfl, Below.refl _ _⟩
  | some i =>
    have hrun := H.ids.look_yes H.rel hs hf
    obtain ⟨y, hy, hu, hk, hi⟩ := findE_some hf
    have HL := Lib.hid (show q.look s = ((i : Int) + 1, (y.u : Int)) by unfold PSt.look; rw [show q.find s = findE q.e s from rfl, hf]; simp [hy])
    obtain ⟨xb, rfl, hxb, _⟩ := hA (by omega)
    obtain ⟨_, _, _, y3, _⟩ := H.node hv hy
    have hup := hG.ut y (List.mem_of_getElem? hy)
    rw [node_live hu] at y3
    rw [hv, hN] at x3
    rw [hN] at hi hm1
    obtain ⟨J, hJ⟩ : ∃ J : Int, (i : Int) + 1 = J := ⟨_, rfl⟩
    have h2 : 1 ≤ J := by omega
    have h3 : J ≤ (N : Int) := by omega
    have h4 : J - 1 = (i : Int) := by omega
    have h5 : (i : Int) < (N : Int) := by omega
    have h6 : IntKind.i64.wrap (J - 1) = (i : Int) := by rw [IntKind.wrap_i64]; omega
    rw [hJ] at hrun HL
    clear H hA hJ hN hv hf hy
    go_enter Try.func15, Try.ntmps15
    go_wp2
    go_quiet (fail)
    go_wp2
    go_ret2
    exact ⟨by rw [HL.out]; rfl, below_drewN (Below.refl _ _) _⟩
set_option maxHeartbeats 1000000 in
theorem pqLen (H : PqR col k w g ga q) :
    Calls Try.prog 17 #[.pointer (some ⟨g, 0, none⟩)] w fun e w' => e = .returned (.int .i64 (aliveN q.e : Nat)) ∧ Below w.heap.size w w' := by
  obtain ⟨hG, b, D, vN, vF, H⟩ := H
  have x2 := H.c2
  have hown := H.ids.own
  have hsz := Lib.hid H.rel.size
  unfold MapQ at hown
  clear H
  go_enter Try.func17, Try.ntmps17
  go_wp2_with (at_len; refine wpList_len_own _ rfl _ 76 rfl 9 3 Try.underlying76 _ b (Go.Maps.size D) D rfl hown ?_)
  go_ret
  exact ⟨ret_i64 (by rw [hsz.out]), Below.refl _ _⟩
/-- Behind a call: the pool, its arena, what was written. -/
def DidQ (PA : Rep) (col : Col) (k ka : Nat) (w : World) (g ga : Nat) (q : PSt) (x : ASt) (w' : World) : Prop := ∃ col', PqR col' k w' g ga q ∧ PA col' ka w' ga x ∧ StepC (fun c => Rng k c ∨ Rng ka c) col w col' w'
variable {PA : Rep}
theorem ProgA.below (HP : ProgA PA) (h : PA col ka w ga x) (ht : Tidy col w) (hb : Below w.heap.size w w') : PA col ka w' ga x := HP.keep (P := fun _ => False) h (StepC.below ht hb) (fun _ _ h => h) (fun h => h)
theorem Rd0.head {A : Option Addr} {n c : Nat} {l : List Int} (h : Rd0 col w A n c l) (hn : 0 < n) : ∃ b o, A = some ⟨b, o, none⟩ := by
  obtain ⟨b, o, _, hA, _⟩ := h.rd.at_ hn
  exact ⟨b, o, hA⟩
set_option maxHeartbeats 1000000 in
theorem pqText (HP : ProgA PA) (H : PqR col k w g ga q) (HA : PA col ka w ga x) (hL : Lnk q x) (hap : Apart k ka) (ht : Tidy col w) (hlt : x.t ≤ 1000000000) (hqt : q.t ≤ 1000000000) (id : Int) (hid : I64 id) :
    Calls Try.prog 14 #[.pointer (some ⟨g, 0, none⟩), .int .i64 id] w fun e w' => e = .returned (.tuple #[.string (q.text id).1, .int .i64 (q.text id).2]) ∧ DidQ PA col k ka w g ga q (q.teP x id) w' := by
  obtain ⟨hG, b, D, vN, vF, H⟩ := H
  have hH := pqHas hG H id hid hqt
  have hlen := hG.len
  have hn8 := hG.n8
  obtain ⟨i1, i2⟩ := hid
  cases hat : q.at id with
  | none =>
    have E1 := Lib.hid (show q.text id = (⟨#[]⟩, 8) by unfold PSt.text; rw [hat])
    have E2 := Lib.hid (show q.teP x id = x by unfold PSt.teP; rw [hat])
    rw [hat] at hH
    have HH := Lib.hid H
    clear H
    go_enter Try.func14, Try.ntmps14
    go_wp2_with fail
    refine hH.mono ?_
    rintro e w1 ⟨rfl, rfl⟩
    simp only [Option.isSome]
    go_wp2
    go_ret2
    rw [E1.out, E2.out]
    exact ⟨rfl, col, ⟨hG, _, _, _, _, HH.out⟩, HA, StepC.refl ht⟩
  | some p =>
    obtain ⟨i, y⟩ := p
    obtain ⟨h1, hi1, hy, hu, hi⟩ := at_some hat
    simp only at hi1 hy hu hi
    have hgA := HP.good HA
    have E1 := Lib.hid (show q.text id = (y.k, 0) by unfold PSt.text; rw [hat])
    have E2 := Lib.hid (show q.teP x id = (x.read y.h).2 by unfold PSt.teP; rw [hat])
    have hrd := hL.read hgA hy hu
    obtain ⟨k1, k2⟩ := hG.key y (List.mem_of_getElem? hy) hu
    obtain ⟨d1, d2, d3⟩ := hL.hd hgA hlt hy hu
    have h64 : Hd64 y.h := ⟨⟨by omega, by omega⟩, ⟨by omega, by omega⟩, ⟨by omega, by omega⟩⟩
    have x0 := H.c0
    have x3 := H.c3
    obtain ⟨A, m, hv, hm1, hm2, hA⟩ := H.formN
    obtain ⟨N, hN⟩ : ∃ N : Nat, q.e.length = N := ⟨_, rfl⟩
    obtain ⟨xb, rfl, hxb, hxc⟩ := hA (by omega)
    obtain ⟨y0, y1, y2, y3, _⟩ := H.node hv hy
    rw [node_live hu] at y0 y1 y2
    simp only at y0 y1 y2
    rw [hv, hN] at x3
    rw [hN] at hi hm1
    have h5 : (i : Int) < (N : Int) := by omega
    have h6 : IntKind.i64.wrap (id - 1) = (i : Int) := by rw [IntKind.wrap_i64]; omega
    have h7 : IntKind.i64.wrap (i : Int) = (i : Int) := by rw [IntKind.wrap_i64]; omega
    rw [hat] at hH
    have hgk : ¬ Rng ka (col g) := by rw [H.box.col]; exact hap.no _ ⟨Nat.le_refl _, by omega⟩
    have hxk : ¬ Rng ka (col xb) := by rw [hxc]; exact hap.no _ ⟨by omega, by omega⟩
    have HH := Lib.hid H
    have hHA := HP.below HA ht (Below.refl w.heap.size w).drew
    have hrr := HP.read hHA ht hlt y.h h64
    rw [hrd] at hrr
    have hS : w.cell? ⟨g, 0, none⟩ = some (.pointer (some ⟨ga, 0, none⟩)) ∧ w.cell? ⟨g, 3, none⟩ = some (.slice (some ⟨xb, 0, none⟩) N m) ∧ w.cell? ⟨xb, i * 4, none⟩ = some (.int .i64 y.h.1) ∧ w.cell? ⟨xb, i * 4 + 1, none⟩ = some (.int .i64 y.h.2.1) ∧ w.cell? ⟨xb, i * 4 + 2, none⟩ = some (.int .i64 y.h.2.2) := ⟨x0, x3, y0, y1, y2⟩
    have hSk : ∀ (col4 : Col) (w4 : World), StepC (Rng ka) col w col4 w4 → (w4.cell? ⟨g, 0, none⟩ = some (.pointer (some ⟨ga, 0, none⟩)) ∧ w4.cell? ⟨g, 3, none⟩ = some (.slice (some ⟨xb, 0, none⟩) N m) ∧ w4.cell? ⟨xb, i * 4, none⟩ = some (.int .i64 y.h.1) ∧ w4.cell? ⟨xb, i * 4 + 1, none⟩ = some (.int .i64 y.h.2.1) ∧ w4.cell? ⟨xb, i * 4 + 2, none⟩ = some (.int .i64 y.h.2.2)) := fun _ _ h => ⟨h.cell x0 hgk, h.cell x3 hgk, h.cell y0 hxk, h.cell y1 hxk, h.cell y2 hxk⟩
    clear H hA hN hv hgk hxk x0 x3 y0 y1 y2 y3 hL hat hy hi1 hlen hn8 i1 i2
    go_enter Try.func14, Try.ntmps14
    go_wp2_with fail
    refine hH.mono ?_
    rintro e w1 ⟨rfl, rfl⟩
    simp only [Option.isSome]
    go_wp2
    go_region_held3 (fun w' => w'.cell? ⟨g, 0, none⟩ = some (.pointer (some ⟨ga, 0, none⟩)) ∧ w'.cell? ⟨g, 3, none⟩ = some (.slice (some ⟨xb, 0, none⟩) N m) ∧ w'.cell? ⟨xb, i * 4, none⟩ = some (.int .i64 y.h.1) ∧ w'.cell? ⟨xb, i * 4 + 1, none⟩ = some (.int .i64 y.h.2.1) ∧ w'.cell? ⟨xb, i * 4 + 2, none⟩ = some (.int .i64 y.h.2.2)) (first | exact hS | exact hS4)
      (first | (go_at_call 34; refine hrr.mono ?_; rintro e4 w4 ⟨A4, n4, c4, rfl, col4, HA4, S4, R4⟩; have S4' : StepC (Rng ka) col w col4 w4 := (StepC.drew ht).trans S4; have hS4 := hSk col4 w4 S4'))
    all_goals
      clear hS hSk hS4 hrr hH
      have hl4 := R4.rd.len
      rw [sB_len] at hl4
      obtain ⟨b4, o4, rfl⟩ := R4.head (by omega)
      have hcv := conv_bS R4.rd
      rw [bS_sB] at hcv
      have R4' := Lib.hid R4
      clear R4
      go_wp2
      go_ret2
      rw [E1.out, E2.out, hrd]
      exact ⟨rfl, col4, ⟨hG, _, _, _, _, HH.out.keep S4' hap.no⟩, HA4, S4'.mono rng_r⟩
end
end Go.Proofs.Ytenchaifnfgijaa
