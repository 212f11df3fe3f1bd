/- heavykeyslaw05.FrameSpoilt returns true, whatever the input. Conditions: none beyond those typed. -/
import Derived.Test.YtoaijnpkenflbaaGlawl
import Derived.Deep.RegionHeld3
namespace Go.Proofs.Ytoaijnpkenflbaa
open Go.ChangeShapes Go.WideShapes Go.ChangeAt Go.RowKit
set_option linter.unusedVariables false
set_option linter.unusedSimpArgs false
set_option maxRecDepth 100000

/-- What is read of a body that was cut: the same up to j, and wrong from there on. -/
def CutAt (n j : Nat) (P Q : List Inp) : Prop := P.length = n ∧ Q.length = n ∧ j < n ∧ ∀ k, k < n → if k < j then P[k]? = Q[k]? else P[k]? = some badI
theorem cut_at {L : List Ev} {n c : Nat} (hn : L.length = n) (h1 : 1 ≤ n) (h2 : n ≤ 64) (h : Sound L) (hc1 : 1 ≤ c) (hc : c < (bdB L).length) : ∃ j, CutAt n j (inpsB 255 ((bdB L).take c)) (L.map (inpE 255)) := by
  obtain ⟨j, hj, he⟩ := ins_cut (most := 255) (by omega) (by omega) h hc1 hc
  refine ⟨j, ?_, by rw [List.length_map, hn], by omega, fun k hk => ?_⟩
  · rw [he, List.length_append, List.length_map, List.length_take, List.length_replicate]; omega
  · rw [he]
    split
    · rename_i hkj
      rw [List.getElem?_append_left (by rw [List.length_map, List.length_take]; omega), List.getElem?_map, List.getElem?_map, List.getElem?_take, if_pos hkj]
    · rename_i hkj
      rw [List.getElem?_append_right (by rw [List.length_map, List.length_take]; omega), List.getElem?_replicate, if_pos]
      rw [List.length_map, List.length_take]; omega

set_option maxHeartbeats 1000000 in
theorem frameSpoilt_walk (B : Option Addr) (m d : Nat) (at_ : Int) (w : World) (hB : RdI w B m d) (h1 : 0 ≤ at_) (h2 : at_ ≤ 65535) :
    Calls Try.prog 7 #[.slice B m d, .int .u16 at_] w (Yes w) := by
  obtain ⟨at', rfl⟩ := Int.eq_ofNat_of_zero_le h1
  go_enter Try.func7, Try.ntmps7
  go_wp2_with fail
  refine (new_any _ _ _ _).mono ?_
  rintro e w1 ⟨rfl, rfl⟩
  go_wp2_with fail
  refine (events_any 50 10 (Dk.new hB) (by omega) (by omega)).mono ?_
  rintro e w2 ⟨A2, n2, c2, L, rfl, hE2, hn1, hn2, hF, hD2, -⟩
  have hB2 := hD2.low
  have hLl := hE2.len
  have hbE := bdE_fit hF (by omega) (by omega)
  have hbO := bdO_ok hbE
  have hW := Lib.hid (fit_wts hF)
  have hI := ins_each (most := 255) (L := L) (by omega) (by omega) (sound_fit hF)
  have htwo := bdB_two (L := L) (by omega)
  have hmx2 := hE2.max
  have hcp2 := hE2.cap
  clear hD2
  go_wp2_with fail
  refine (rbody_any _ _ _ L _ hE2 hW.out).mono ?_
  rintro e w3 ⟨A3, n3, c3, rfl, hr3, hb3⟩
  rw [hbO.1] at hr3
  rw [hbE]
  have hB3 := below_then hB2 hb3
  have hl3 := hr3.len
  obtain ⟨q, hq⟩ : ∃ q, q = at' % (n3 - 1) := ⟨_, rfl⟩
  have hqn : q < n3 - 1 := hq ▸ Nat.mod_lt _ (by omega)
  have hT : (at' : Int).tmod ((n3 : Int) - 1) = (q : Int) := by
    rw [show ((n3 : Int) - 1) = ((n3 - 1 : Nat) : Int) by omega, hq]; rfl
  obtain ⟨j, hC⟩ := cut_at hLl hn1 (by omega) (sound_fit hF) (c := 1 + q) (by omega) (by omega)
  have hP := hr3.take (k := 1 + q) (by omega)
  have hT2 : (at' : Int) % ((n3 : Int) - 1) = (q : Int) := by
    rw [show ((n3 : Int) - 1) = ((n3 - 1 : Nat) : Int) by omega, hq]; rfl
  have hcap := hr3.cap
  have hmx := hr3.max
  have hn3 : 2 ≤ n3 := by omega
  have hn4 : n3 ≤ 4096 := by omega
  have hq9 : (1 : Int) + (q : Int) ≤ (n3 : Int) := by omega
  have hq8 : (1 : Int) + (q : Int) ≤ (c3 : Int) := by omega
  have hz1 : ¬ ((n3 : Int) - 1 = 0) := by omega
  have hz2 : ((n3 : Int) - 1 == 0) = false := beq_false_of_ne hz1
  have HI := Lib.hid hI
  clear hq hbE hbO hF hI hE2 hB2 hb3 hLl htwo hl3
  obtain ⟨b3, o3, rfl⟩ := hr3.some_of (by omega)
  have hW3 := hr3.drew
  have hP3 := hP.drew
  have hm0 : (-9223372036854775808 : Int) ≤ 255 := by omega
  have hm1 : (255 : Int) ≤ 9223372036854775807 := by omega
  have hB3d := hB3.drew
  clear hr3 hP hB3
  obtain ⟨P, hPe⟩ : ∃ P, inpsB 255 (List.take (1 + q) (bdB L)) = P := ⟨_, rfl⟩
  rw [hPe] at hC
  go_wp2
  obtain ⟨ct, hct⟩ : ∃ ct, ct = 1 + q := ⟨_, rfl⟩
  rw [show (1 : Int) + (q : Int) = (ct : Int) by omega]
  rw [← hct] at hP3 hPe
  have HPe := Lib.hid hPe
  have HC := Lib.hid hC
  clear hPe hC
  have i1 : (ct : Int) ≤ (n3 : Int) := by omega
  have i2 : (ct : Int) ≤ (c3 : Int) := by omega
  have i3 : ct ≤ c3 := by omega
  have i4 : (0 : Int) ≤ (ct : Int) := by omega
  clear hq9 hq8 hct hqn hT hT2 hz1 hz2
  obtain ⟨Q, hQ⟩ : ∃ Q, L.map (inpE 255) = Q := ⟨_, rfl⟩
  have CW : Hid (∀ w', Rd w' (some ⟨b3, o3, none⟩) n3 c3 (bdB L) → Calls Try.prog 17 #[.slice (some ⟨b3, o3, none⟩) n3 c3, .int .i64 255] w' (InsOut Q w')) := Lib.hid (fun w' h => by rw [← hQ, ← HI.out]; exact read_frame_any _ _ _ _ 255 _ h hm0 hm1)
  have CP : Hid (∀ w', Rd w' (some ⟨b3, o3, none⟩) ct c3 (List.take ct (bdB L)) → Calls Try.prog 17 #[.slice (some ⟨b3, o3, none⟩) ct c3, .int .i64 255] w' (InsOut P w')) := Lib.hid (fun w' h => by rw [← HPe.out]; exact read_frame_any _ _ _ _ 255 _ h hm0 hm1)
  rw [hQ] at HC
  clear hQ HI HPe hW hm0 hm1
  generalize List.take ct (bdB L) = lp at *
  generalize bdB L = lb at *
  go_region_held3 (fun _ => True) (trivial) (first | (go_at_call 17; refine (CW.out _ hW3).mono ?_; rintro e wA ⟨vA, rfl, hOA, hbA⟩; have hP4 := hP3.below hbA; have hBA := below_then hB3d hbA; clear CW hP3 hW3 hbA hB3d) | (go_at_call 17; refine (CP.out _ hP4).mono ?_; rintro e wB ⟨vB, rfl, hOB, hbB⟩; clear CP hP4))
  have hWn := (hOA.below hbB)
  obtain ⟨AW, cW, rfl, hRW⟩ := hWn.form (n := n2) HC.out.2.1
  obtain ⟨AP, cP, rfl, hRP⟩ := hOB.form (n := n2) HC.out.1
  have hB4 := below_then hBA hbB
  have hj : j < n2 := HC.out.2.2.1
  have HD : Hid (∀ k, k < n2 → if k < j then P[k]? = Q[k]? else P[k]? = some badI) := Lib.hid HC.out.2.2.2
  have hcW := hRW.cap
  have hmW := hRW.max
  have hcP := hRP.cap
  have hmP := hRP.max
  have hnn : ((n2 : Int) != (n2 : Int)) = false := by simp
  clear hOA hOB hbB hBA hWn HC i1 i2 i3 i4 hn3 hn4
  go_wp2
  go_loopw [11, 55] (fun bv i W => ∃ (k : Nat) (bad : Bool), k ≤ n2 ∧ (bad = true → j < k) ∧ Below wB.heap.size wB W ∧ bv = .bool bad ∧ i = .int .i64 k) (fun _ i _ => n2 - (intOf i).toNat)
  case atStart => exact ⟨0, false, by omega, by simp, Below.refl _ _, rfl, rfl⟩
  case round =>
    obtain ⟨k, bad, hk, hbad, hb, rfl, rfl⟩ := hrel
    by_cases hlt : k < n2
    · obtain ⟨b, o, s, t, x, y, rfl, hg, hbl, y0, y1, y2, y3⟩ := (hRW.below hb).at_ hlt
      obtain ⟨b', o', s', t', x', y', rfl, hg', hbl', z0, z1, z2, z3⟩ := (hRP.below hb).at_ hlt
      have hd := HD.out k hlt
      by_cases hkj : k < j
      · rw [if_pos hkj, hg, hg'] at hd
        obtain ⟨rfl, rfl, rfl, rfl⟩ : s' = s ∧ t' = t ∧ x' = x ∧ y' = y := by simpa using hd
        obtain rfl : bad = false := by
          cases bad
          · rfl
          · exact absurd (hbad rfl) (by omega)
        have hQ := eqIn_cells s' s' t' t' x' x' y' y'
        rw [decide_eq_true rfl] at hQ
        clear hg hg' hd hbad
        go_wp2
        go_quiet (fail)
        go_wp2
        refine ⟨⟨k + 1, false, by omega, by simp, below_drewN hb _, rfl, by go_num⟩, ?_⟩
        (simp [intOf] <;> omega)
      · rw [if_neg hkj, hg'] at hd
        obtain ⟨rfl, rfl, rfl, rfl⟩ : s' = ⟨#[]⟩ ∧ t' = 0 ∧ x' = 0 ∧ y' = 1 := by simpa [badI] using hd
        have hQ := eqIn_cells ⟨#[]⟩ s 0 t 0 x 1 y
        clear hg hg' hd
        cases bad
        · go_wp2
          go_quiet (fail)
          go_wp2
          all_goals
            refine ⟨⟨k + 1, _, by omega, fun _ => by omega, below_drewN hb _, rfl, by go_num⟩, ?_⟩
            (simp [intOf] <;> omega)
        · go_wp2
          go_quiet (fail)
          go_wp2
          all_goals
            refine ⟨⟨k + 1, _, by omega, fun _ => by omega, below_drewN hb _, rfl, by go_num⟩, ?_⟩
            (simp [intOf] <;> omega)
    · obtain rfl : k = n2 := by omega
      have hd := HD.out (k - 1) (by omega)
      rw [if_neg (by omega)] at hd
      obtain ⟨b', o', s', t', x', y', rfl, hg', hbl', z0, z1, z2, z3⟩ := (hRP.below hb).at_ (k := k - 1) (by omega)
      rw [hg'] at hd
      obtain ⟨rfl, rfl, rfl, rfl⟩ : s' = ⟨#[]⟩ ∧ t' = 0 ∧ x' = 0 ∧ y' = 1 := by simpa [badI] using hd
      clear hd hg'
      go_wp2_with fail
      refine (awake_any _).mono ?_
      rintro e w6 ⟨rfl, hb6⟩
      have hb7 := below_then (below_then hB4 hb) hb6
      go_wp2
      go_ret
      exact ⟨rfl, hb7⟩
end Go.Proofs.Ytoaijnpkenflbaa
