/- Package frame's Read. Conditions: none beyond those typed. -/
import Derived.Test.YtoaijnpkenflbaaFread
namespace Go.Proofs.Ytoaijnpkenflbaa
open Go.ChangeShapes Go.WideShapes Go.ChangeAt Go.RowKit
set_option linter.unusedVariables false
set_option linter.unusedSimpArgs false
set_option maxRecDepth 100000

/-- Inputs come back, a row of the call's own. -/
def InsOut (L : List Inp) (w : World) (e : Ending) (w' : World) : Prop := ∃ v, e = .returned v ∧ OwnN w' w.heap.size v L ∧ Below w.heap.size w w'
theorem InsOut.mk' {L L' : List Inp} {w w' : World} {v : Value} (h : L = L') (hO : OwnN w' w.heap.size v L') (hb : Below w.heap.size w w') : InsOut L w (.returned v) w' := by subst h; exact ⟨v, rfl, hO, hb⟩
theorem ins_bad {most : Int} {b : List Int} (h : rdE b ≠ 0 ∨ rdN b < 1 ∨ 64 < rdN b) : inpsB most b = [badI] := if_pos h
theorem ins_ok {most : Int} {b : List Int} (h : ¬ (rdE b ≠ 0 ∨ rdN b < 1 ∨ 64 < rdN b)) : inpsB most b = insN most (rdN b).toNat (numR b) := if_neg h
theorem malformed_int (k : Int) (w : World) (h0 : 0 ≤ k) (hk : k ≤ 1000) : Calls Try.prog 28 #[.int .i64 k] w (MalOut k.toNat w) := by
  obtain ⟨m, rfl⟩ := Int.eq_ofNat_of_zero_le h0
  rw [Int.toNat_natCast]
  exact malformed_any m w (by omega)
theorem ins_short {most : Int} {N : Nat} {b : List Int} {p : List Inp × List Int} (h : inpsB most b = insN most N (numR b)) (hp : rdEv most N (numR b) = p) (h1 : p.1.length < N) : inpsB most b = p.1 ++ List.replicate (N - p.1.length) badI := by
  rw [h, insN_rd, hp, if_pos h1]
theorem ins_more {most : Int} {N : Nat} {b : List Int} {p : List Inp × List Int} (h : inpsB most b = insN most N (numR b)) (hp : rdEv most N (numR b) = p) (h1 : ¬ p.1.length < N) (h2 : 0 < p.2.length) : inpsB most b = p.1 ++ [badI] := by
  rw [h, insN_rd, hp, if_neg h1, if_neg (by intro e; rw [e] at h2; simp at h2)]
theorem ins_full {most : Int} {N : Nat} {b : List Int} {p : List Inp × List Int} (h : inpsB most b = insN most N (numR b)) (hp : rdEv most N (numR b) = p) (h1 : ¬ p.1.length < N) (h2 : ¬ 0 < p.2.length) : inpsB most b = p.1 := by
  rw [h, insN_rd, hp, if_neg h1, if_pos (List.eq_nil_of_length_eq_zero (by omega)), List.append_nil]
set_option maxHeartbeats 400000 in
theorem read_frame_any (A : Option Addr) (n c : Nat) (l : List Int) (most : Int) (w : World) (hR : Rd w A n c l) (hm0 : -9223372036854775808 ≤ most) (hm1 : most ≤ 9223372036854775807) :
    Calls Try.prog 17 #[.slice A n c, .int .i64 most] w (InsOut (inpsB most l) w) := by
  have hrt := rd_top hR.bytes
  by_cases hbad : rdE l ≠ 0 ∨ rdN l < 1 ∨ 64 < rdN l
  · have HI := Lib.hid (ins_bad (most := most) hbad)
    by_cases he : rdE l = 0
    · by_cases h1 : rdN l < 1
      · have HE := Lib.hid he
        have HN : Hid (rdN l = 0) := Lib.hid (by omega)
        clear hbad he h1 hrt
        go_enter Try.func17, Try.ntmps17
        go_wp2_with fail
        refine (read_any _ _ _ l _ hR).mono ?_
        rintro e w1 ⟨rfl, rfl⟩
        rw [HE.out, HN.out]
        go_wp2_with fail
        refine (malformed_int 1 _ (by omega) (by omega)).mono ?_
        rintro e w2 ⟨v2, rfl, hO2, hb2⟩
        go_wp2
        go_ret
        exact InsOut.mk' HI.out hO2 hb2
      · have HE := Lib.hid he
        have h64 : 64 < rdN l := by omega
        clear hbad he
        go_enter Try.func17, Try.ntmps17
        go_wp2_with fail
        refine (read_any _ _ _ l _ hR).mono ?_
        rintro e w1 ⟨rfl, rfl⟩
        rw [HE.out]
        go_wp2_with fail
        refine (malformed_int 1 _ (by omega) (by omega)).mono ?_
        rintro e w2 ⟨v2, rfl, hO2, hb2⟩
        go_wp2
        go_ret
        exact InsOut.mk' HI.out hO2 hb2
    · have hv1 : (rdE l == 0) = false := beq_false_of_ne he
      have hv2 : (rdE l != 0) = true := bne_iff_ne.2 he
      clear hbad he
      go_enter Try.func17, Try.ntmps17
      go_wp2_with fail
      refine (read_any _ _ _ l _ hR).mono ?_
      rintro e w1 ⟨rfl, rfl⟩
      go_wp2_with fail
      refine (malformed_int 1 _ (by omega) (by omega)).mono ?_
      rintro e w2 ⟨v2, rfl, hO2, hb2⟩
      go_wp2
      go_ret
      exact InsOut.mk' HI.out hO2 hb2
  · have he : rdE l = 0 := by
      rcases Int.decEq (rdE l) 0 with h | h
      · exact absurd (.inl h) hbad
      · exact h
    obtain ⟨N, hN⟩ := Int.eq_ofNat_of_zero_le hrt.1
    have hN1 : 1 ≤ N := by omega
    have hN2 : N ≤ 64 := by omega
    have HI := Lib.hid (ins_ok (most := most) hbad)
    have HE := Lib.hid he
    have HN := Lib.hid hN
    have hu := rd_used hR.bytes he
    have hlen := hR.len
    obtain ⟨b, o, rfl⟩ := hR.some_of (by omega)
    obtain ⟨m, hm⟩ := Int.eq_ofNat_of_zero_le (show 0 ≤ rdK l by omega)
    have hmn : m ≤ n := by omega
    have hrd := hR.dropIf hmn
    rw [show l.drop m = numR l by unfold numR; rw [hm, Int.toNat_natCast]] at hrd
    have hmi : (m : Int) ≤ (n : Int) := by omega
    have hcap := hR.cap
    have hmx := hR.max
    have hmc : (m : Int) ≤ (c : Int) := by omega
    have hnc : (n : Int) ≤ (c : Int) := by omega
    have HRA : Hid (c = m → Rd w (some ⟨b, o, none⟩) (n - m) 0 (numR l)) := Lib.hid (fun h => by rw [if_pos h, show c - m = 0 by omega] at hrd; exact hrd)
    have HRB : Hid (¬ c = m → Rd w (some ⟨b, o + m, none⟩) (n - m) (c - m) (numR l)) := Lib.hid (fun h => by rw [if_neg h] at hrd; exact hrd)
    rw [hN, Int.toNat_natCast] at HI
    have HM := Lib.hid hm
    have hpl := rdEv_len most N (numR l)
    obtain ⟨p, hp⟩ : ∃ p, rdEv most N (numR l) = p := ⟨_, rfl⟩
    rw [hp] at hpl
    have HP := Lib.hid hp
    have HA := Lib.hid (@ins_short most N l p HI.out hp)
    have HB := Lib.hid (@ins_more most N l p HI.out hp)
    have HC := Lib.hid (@ins_full most N l p HI.out hp)
    clear hbad he hu hrt hN hm hrd HI hp
    go_enter Try.func17, Try.ntmps17
    go_wp2_with fail
    refine (read_any _ _ _ l _ hR).mono ?_
    rintro e w1 ⟨rfl, rfl⟩
    rw [HE.out, HN.out, HM.out]
    go_wp2_with fail
    all_goals
      first
      | (have hq := HRA.out (by assumption); refine (readEvents_any _ _ _ (numR l) N most _ hq (by omega) hm0 hm1).mono ?_)
      | (have hq := HRB.out (by assumption); refine (readEvents_any _ _ _ (numR l) N most _ hq (by omega) hm0 hm1).mono ?_)
      clear hq HRA HRB
      rw [HP.out]
      rintro e w2 ⟨v2, A2, n2, c2, rfl, hO2, hR2, hb2⟩
      obtain ⟨na, hna⟩ : ∃ na, p.1.length = na := ⟨_, rfl⟩
      obtain ⟨A3, c3, rfl, hr3⟩ := hO2.form hna
      have hl2 := hR2.len
      have hm3 := hr3.max
      have hm2 := hR2.max
      have hc3 := hr3.cap
      have hc2 := hR2.cap
      by_cases h1 : na < N
      · have HX := Lib.hid (HA.out (by omega))
        have hz2 := hb2.size
        clear hl2 HA HB HC
        go_wp2_with fail
        refine (malformed_int ((N : Int) - (na : Int)) _ (by omega) (by omega)).mono ?_
        rw [show ((N : Int) - (na : Int)).toNat = N - na by omega]
        rintro e w4 ⟨v4, rfl, hO4, hb4⟩
        obtain ⟨A4, c4, rfl, hr4⟩ := hO4.form (n := N - na) (by simp)
        have hO5 := hO2.below hb4
        have hb5 := below_then hb2 hb4
        have hz5 := hb5.size
        have hlen5 : p.1.length + (N - na) ≤ 1000000 := by omega
        have hm4 := hr4.max
        have hc4 := hr4.cap
        clear hb2 hb4 hr3 hO2 hR2 hO4
        go_wp2_with (at_builtin; refine wpList_appN rfl (.tmp 45) (.tmp 47) rfl w.heap.size _ p.1 rfl A4 (N - na) c4 _ rfl hO5 hr4 hlen5 hz5 ?_; intro v6 w6 hO6 hg6; have hb6 := Below.appN hb5 hO5 hg6 hz5 (Nat.le_refl _))
        rw [hna] at HX
        go_ret
        exact InsOut.mk' HX.out hO6 hb6
      · by_cases h2 : 0 < n2
        · have HX := Lib.hid (HB.out (by omega) (by omega))
          have hz2 := hb2.size
          obtain rfl : na = N := by omega
          clear hl2 HA HB HC
          go_wp2_with fail
          refine (malformed_int 1 _ (by omega) (by omega)).mono ?_
          rintro e w4 ⟨v4, rfl, hO4, hb4⟩
          obtain ⟨A4, c4, rfl, hr4⟩ := hO4.form (n := 1) (by simp)
          have hO5 := hO2.below hb4
          have hb5 := below_then hb2 hb4
          have hz5 := hb5.size
          have hlen5 : p.1.length + 1 ≤ 1000000 := by omega
          have hm4 := hr4.max
          have hc4 := hr4.cap
          clear hb2 hb4 hr3 hO2 hR2 hO4
          go_wp2_with (at_builtin; refine wpList_appN rfl (.tmp 52) (.tmp 53) rfl w.heap.size _ p.1 rfl A4 1 c4 _ rfl hO5 hr4 hlen5 hz5 ?_; intro v6 w6 hO6 hg6; have hb6 := Below.appN hb5 hO5 hg6 hz5 (Nat.le_refl _))
          go_ret
          exact InsOut.mk' HX.out hO6 hb6
        · have HX := Lib.hid (HC.out (by omega) (by omega))
          obtain rfl : na = N := by omega
          obtain rfl : n2 = 0 := by omega
          clear hl2 HA HB HC
          go_wp2
          go_ret
          exact InsOut.mk' HX.out hO2 hb2
end Go.Proofs.Ytoaijnpkenflbaa
