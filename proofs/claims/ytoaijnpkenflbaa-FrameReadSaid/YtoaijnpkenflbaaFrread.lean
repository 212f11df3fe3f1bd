/- heavykeysref01.Inputs: the specified inputs of a body. Conditions: none beyond those typed. -/
import Derived.Test.YtoaijnpkenflbaaFread2
import Derived.Test.YtoaijnpkenflbaaErdec2
namespace Go.Proofs.Ytoaijnpkenflbaa
open Go.ChangeShapes Go.WideShapes Go.ChangeAt Go.RowKit
set_option linter.unusedVariables false
set_option linter.unusedSimpArgs false
set_option maxRecDepth 100000

/-- What stands in the loop of Inputs after k events. -/
def RinK (most : Int) (N : Nat) (b : List Int) (k : Nat) (acc : List Inp) (r : List Int) : Prop := RdK most N (numR b) k acc r ∧ inpsB most b = insN most N (numR b)
theorem RinK.err {most : Int} {N k : Nat} {b r : List Int} {acc : List Inp} (h : RinK most N b k acc r) (hk : k < N) (h0 : decE r ≠ 0) : inpsB most b = acc ++ List.replicate (N - k) badI := by
  have h1 := h.1.err hk h0
  have h2 := h.1.1
  rw [ins_short h.2 h1 (by show acc.length < N; omega), h2]
theorem RinK.next {most : Int} {N k : Nat} {b r : List Int} {acc : List Inp} (h : RinK most N b k acc r) (hk : k < N) (h0 : decE r = 0) : RinK most N b (k + 1) (acc ++ [inp most (decT r) (decM r) (decW r)]) (decR r) := ⟨h.1.next hk h0, h.2⟩
theorem RinK.more {most : Int} {N : Nat} {b r : List Int} {acc : List Inp} (h : RinK most N b N acc r) (h0 : 0 < r.length) : inpsB most b = acc ++ [badI] := by
  have h1 := h.1.end_
  have h2 := h.1.1
  rw [ins_more h.2 h1 (by show ¬ acc.length < N; omega) h0]
theorem RinK.full {most : Int} {N : Nat} {b r : List Int} {acc : List Inp} (h : RinK most N b N acc r) (h0 : ¬ 0 < r.length) : inpsB most b = acc := by
  have h1 := h.1.end_
  have h2 := h.1.1
  rw [ins_full h.2 h1 (by show ¬ acc.length < N; omega) h0]
theorem rep_snoc {acc : List Inp} {m : Nat} : (acc ++ List.replicate m badI) ++ [badI] = acc ++ List.replicate (m + 1) badI := by
  rw [List.append_assoc, List.replicate_succ']

set_option maxHeartbeats 1000000 in
theorem rinputs_any (A : Option Addr) (n c : Nat) (l : List Int) (most : Int) (w : World) (hR : Rd w A n c l) (hm0 : -9223372036854775808 ≤ most) (hm1 : most ≤ 9223372036854775807) :
    Calls Try.prog 18 #[.slice A n c, .int .i64 most] w (InsOut (inpsB most l) w) := by
  have hrt := rd_top hR.bytes
  have hO1 := OwnN.one' (w := w) (base := w.heap.size) (⟨#[]⟩) 0 0 1 rfl (Nat.le_refl _)
  have hB1 : Below w.heap.size w (w.alloc (.cells #[.string ⟨#[]⟩, .int .i64 0, .int .u64 0, .int .i64 1] 51)) := (Below.refl _ _).alloc (Nat.le_refl _) _
  by_cases hbad : rdE l ≠ 0 ∨ rdN l < 1 ∨ 64 < rdN l
  · have HI := Lib.hid (ins_bad (most := most) hbad)
    by_cases he : rdE l = 0
    · by_cases h1 : rdN l < 1
      · have HE := Lib.hid he
        have HN : Hid (rdN l = 0) := Lib.hid (by omega)
        clear hbad he h1 hrt
        go_enter Try.func18, Try.ntmps18
        go_wp2_with fail
        refine (rread_any _ _ _ l _ hR).mono ?_
        rintro e w1 ⟨rfl, rfl⟩
        rw [HE.out, HN.out]
        go_wp2
        go_ret
        exact InsOut.mk' HI.out hO1 hB1
      · have HE := Lib.hid he
        have h64 : 64 < rdN l := by omega
        clear hbad he
        go_enter Try.func18, Try.ntmps18
        go_wp2_with fail
        refine (rread_any _ _ _ l _ hR).mono ?_
        rintro e w1 ⟨rfl, rfl⟩
        rw [HE.out]
        go_wp2
        go_ret
        exact InsOut.mk' HI.out hO1 hB1
    · have hv1 : (rdE l == 0) = false := beq_false_of_ne he
      have hv2 : (rdE l != 0) = true := bne_iff_ne.2 he
      clear hbad he
      go_enter Try.func18, Try.ntmps18
      go_wp2_with fail
      refine (rread_any _ _ _ l _ hR).mono ?_
      rintro e w1 ⟨rfl, rfl⟩
      go_wp2
      go_ret
      exact InsOut.mk' HI.out hO1 hB1
  · clear hO1 hB1
    have he : rdE l = 0 := by
      rcases Int.decEq (rdE l) 0 with h | h
      · exact absurd (.inl h) hbad
      · exact h
    obtain ⟨N, hN⟩ := Int.eq_ofNat_of_zero_le hrt.1
    have hN1 : 1 ≤ N := by omega
    have hN2 : N ≤ 64 := by omega
    have hI := ins_ok (most := most) hbad
    rw [hN, Int.toNat_natCast] at hI
    have HE := Lib.hid he
    have HN := Lib.hid hN
    have hu := rd_used hR.bytes he
    have hlen := hR.len
    obtain ⟨b, o, rfl⟩ := hR.some_of (by omega)
    obtain ⟨m, hm⟩ := Int.eq_ofNat_of_zero_le (show 0 ≤ rdK l by omega)
    have hmn : m ≤ n := by omega
    have hrd := hR.dropIf hmn
    rw [show l.drop m = numR l by unfold numR; rw [hm, Int.toNat_natCast]] at hrd
    have hmi : (m : Int) ≤ (n : Int) := by omega
    have hcap := hR.cap
    have hmx := hR.max
    have hmc : (m : Int) ≤ (c : Int) := by omega
    have hnc : (n : Int) ≤ (c : Int) := by omega
    have HRA : Hid (c = m → Rd w (some ⟨b, o, none⟩) (n - m) 0 (numR l)) := Lib.hid (fun h => by rw [if_pos h, show c - m = 0 by omega] at hrd; exact hrd)
    have HRB : Hid (¬ c = m → Rd w (some ⟨b, o + m, none⟩) (n - m) (c - m) (numR l)) := Lib.hid (fun h => by rw [if_neg h] at hrd; exact hrd)
    have HM := Lib.hid hm
    have hK0 : RinK most N l 0 [] (numR l) := ⟨RdK.zero _ _ _, hI⟩
    clear hbad he hu hrt hN hm hrd hI
    go_enter Try.func18, Try.ntmps18
    go_wp2_with fail
    refine (rread_any _ _ _ l _ hR).mono ?_
    rintro e w1 ⟨rfl, rfl⟩
    rw [HE.out, HN.out, HM.out]
    go_wp2
    all_goals
      first
      | have hq := HRA.out (by assumption)
      | have hq := HRB.out (by assumption)
      clear HRA HRB hmi hmc hmn HM
      go_loopw [8, 9, 10] (fun v u i W => ∃ (k : Nat) (acc : List Inp) (A1 : Option Addr) (n1 c1 : Nat) (r : List Int), k ≤ N ∧ u = .slice A1 n1 c1 ∧ Rd w A1 n1 c1 r ∧ OwnN W w.heap.size v acc ∧ RinK most N l k acc r ∧ Below w.heap.size w W ∧ i = .int .u64 k) (fun _ _ i _ => N - (intOf i).toNat)
      case atStart => exact ⟨0, [], _, _, _, numR l, by omega, rfl, hq, OwnN.nil _ _, hK0, Below.refl _ _, rfl⟩
      case round =>
        clear hq hK0
        obtain ⟨k, acc, A1, n1, c1, r, hk, rfl, hr, hO, hK, hb, rfl⟩ := hrel
        have hal := hK.1.1
        by_cases hlt : k < N
        · by_cases he : decE r = 0
          · have HE' := Lib.hid he
            have HN' := Lib.hid (hK.next hlt he)
            have hl8 := decT_len r hr.bytes
            have hpos := dec_pos he
            have hrl := hr.len
            obtain ⟨b1, o1, rfl⟩ := hr.some_of (by omega)
            have hdl := decN_le (l := r)
            have HD := Lib.hid (decR_drop he)
            obtain ⟨m1, hm1'⟩ := Int.eq_ofNat_of_zero_le hdl.1
            have hmn1 : m1 ≤ n1 := by omega
            have hcap1 := hr.cap
            have hmx1 := hr.max
            have hrd := hr.dropIf hmn1
            rw [← show (decN r).toNat = m1 by omega, HD.out, show (decN r).toNat = m1 by omega] at hrd
            have hmi1 : (m1 : Int) ≤ (n1 : Int) := by omega
            have hmc1 : (m1 : Int) ≤ (c1 : Int) := by omega
            have hnc1 : (n1 : Int) ≤ (c1 : Int) := by omega
            have HRA : Hid (c1 = m1 → Rd w (some ⟨b1, o1, none⟩) (n1 - m1) 0 (decR r)) := Lib.hid (fun h => by rw [if_pos h, show c1 - m1 = 0 by omega] at hrd; exact hrd)
            have HRB : Hid (¬ c1 = m1 → Rd w (some ⟨b1, o1 + m1, none⟩) (n1 - m1) (c1 - m1) (decR r)) := Lib.hid (fun h => by rw [if_neg h] at hrd; exact hrd)
            clear he hK HD hrd
            go_wp2_with fail
            refine (rdecode_any _ _ _ r _ (hr.below hb)).mono ?_
            rintro e w2 ⟨A2, n2, c2, rfl, hT2, hb2⟩
            rw [HE'.out, hm1']
            have hb3 := below_then hb hb2
            have hX := EBox.new w2 A2 n2 c2 (decM r) (decW r)
            have y0 := hX.c0
            have y1 := hX.c1
            have y2 := hX.c2
            have hT3 := hT2.alloc (.cells #[.slice A2 n2 c2, .int .i64 (decM r), .int .u64 (decW r)] 30)
            have hn2 : n2 ≤ 1000 := by have := hT2.len; omega
            have hO3 := (hO.below hb2).alloc (.cells #[.slice A2 n2 c2, .int .i64 (decM r), .int .u64 (decW r)] 30)
            have hb4 := hb3.alloc hb3.size (.cells #[.slice A2 n2 c2, .int .i64 (decM r), .int .u64 (decW r)] 30)
            clear hT2 hb2 hb3 hO hb hm1' hdl hl8 hX hr
            go_wp2_with fail
            all_goals
              first
              | have hq := HRA.out (by assumption)
              | have hq := HRB.out (by assumption)
              clear HRA HRB
              have hks := keyBy_le (decT r)
              by_cases hz : itE (decT r) (decM r) (decW r) = 0
              · have HZ := Lib.hid hz
                have HV := Lib.hid (show itV (decT r) (decM r) (decW r) = .agg #[.string (keyBy (decT r)), .int .i64 (decM r), .int .u64 (decW r)] from if_pos hz)
                by_cases h1 : most < (keyBy (decT r)).size
                · rw [inp_long hz h1] at HN'
                  clear hz
                  refine (ritem_any _ _ _ (decT r) _ _ _ hT3 hn2).mono ?_
                  rintro e w4 ⟨rfl, hb5⟩
                  rw [HZ.out, HV.out]
                  clear HV HZ
                  generalize keyBy (decT r) = ks at *
                  generalize decM r = dm at *
                  generalize decW r = dw at *
                  have hJ := IBox.new w4 ks dm dw
                  have j0 := hJ.c0
                  have j1 := hJ.c1
                  have j2 := hJ.c2
                  have f0 := hJ.frozen 0
                  have f1 := hJ.frozen 1
                  have f2 := hJ.frozen 2
                  clear hJ
                  have hO5 := ((hO3.below hb5).alloc (.cells #[.string ⟨#[]⟩, .int .i64 0, .int .u64 0] 47)).alloc (.cells #[.string ⟨#[]⟩, .int .i64 0, .int .u64 0, .int .i64 2] 51)
                  have hb6 := (below_then hb4 hb5).alloc (below_then hb4 hb5).size (.cells #[.string ⟨#[]⟩, .int .i64 0, .int .u64 0] 47)
                  have hb7 := hb6.alloc hb6.size (.cells #[.string ⟨#[]⟩, .int .i64 0, .int .u64 0, .int .i64 2] 51)
                  have hz7 := hb7.size
                  have hN5 := RdN.one' (w := w4.alloc (.cells #[.string ⟨#[]⟩, .int .i64 0, .int .u64 0] 47)) (h := w4.heap.size + 1) ⟨#[]⟩ 0 0 2 (by simp)
                  have hlen5 : acc.length + 1 ≤ 1000000 := by omega
                  clear y0 y1 y2 hT3 hO3 hb4 hb5 hb6
                  go_wp2_with fail
                  refine (rverdict_any _ _).mono ?_
                  rintro e w5 ⟨rfl, rfl⟩
                  rw [show verd 0 = 0 from rfl]
                  go_wp2_with (at_builtin; refine wpList_appN rfl (.tmp 82) (.tmp 86) rfl w.heap.size _ acc rfl _ 1 1 _ rfl hO5 hN5 hlen5 hz7 ?_; intro v8 w8 hO8 hg8; have hb8 := Below.appN hb7 hO5 hg8 hz7 (Nat.le_refl _))
                  clear hO5 hN5 hg8 hb7
                  go_roundw
                  case rel => exact ⟨k + 1, _, _, _, _, _, by omega, rfl, hq, hO8, HN'.out, hb8, by go_num⟩
                  case measure => (simp [intOf] <;> omega)
                · rw [inp_ok hz h1] at HN'
                  clear hz
                  refine (ritem_any _ _ _ (decT r) _ _ _ hT3 hn2).mono ?_
                  rintro e w4 ⟨rfl, hb5⟩
                  rw [HZ.out, HV.out]
                  clear HV HZ
                  generalize keyBy (decT r) = ks at *
                  generalize decM r = dm at *
                  generalize decW r = dw at *
                  have hJ := IBox.new w4 ks dm dw
                  have j0 := hJ.c0
                  have j1 := hJ.c1
                  have j2 := hJ.c2
                  have f0 := hJ.frozen 0
                  have f1 := hJ.frozen 1
                  have f2 := hJ.frozen 2
                  clear hJ
                  have hO5 := ((hO3.below hb5).alloc (.cells #[.string ks, .int .i64 dm, .int .u64 dw] 47)).alloc (.cells #[.string ks, .int .i64 dm, .int .u64 dw, .int .i64 0] 51)
                  have hb6 := (below_then hb4 hb5).alloc (below_then hb4 hb5).size (.cells #[.string ks, .int .i64 dm, .int .u64 dw] 47)
                  have hb7 := hb6.alloc hb6.size (.cells #[.string ks, .int .i64 dm, .int .u64 dw, .int .i64 0] 51)
                  have hz7 := hb7.size
                  have hN5 := RdN.one' (w := w4.alloc (.cells #[.string ks, .int .i64 dm, .int .u64 dw] 47)) (h := w4.heap.size + 1) ks dm dw 0 (by simp)
                  have hlen5 : acc.length + 1 ≤ 1000000 := by omega
                  clear y0 y1 y2 hT3 hO3 hb4 hb5 hb6
                  go_wp2_with fail
                  refine (rverdict_any _ _).mono ?_
                  rintro e w5 ⟨rfl, rfl⟩
                  rw [show verd 0 = 0 from rfl]
                  go_wp2_with (at_builtin; refine wpList_appN rfl (.tmp 82) (.tmp 86) rfl w.heap.size _ acc rfl _ 1 1 _ rfl hO5 hN5 hlen5 hz7 ?_; intro v8 w8 hO8 hg8; have hb8 := Below.appN hb7 hO5 hg8 hz7 (Nat.le_refl _))
                  clear hO5 hN5 hg8 hb7
                  go_roundw
                  case rel => exact ⟨k + 1, _, _, _, _, _, by omega, rfl, hq, hO8, HN'.out, hb8, by go_num⟩
                  case measure => (simp [intOf] <;> omega)
              · rw [inp_bad hz] at HN'
                have HV := Lib.hid (show itV (decT r) (decM r) (decW r) = .agg #[.string ⟨#[]⟩, .int .i64 0, .int .u64 0] from if_neg hz)
                obtain ⟨vz, hvz⟩ : ∃ vz, verd (itE (decT r) (decM r) (decW r)) = vz := ⟨_, rfl⟩
                rw [hvz] at HN'
                have hv0 : vz = 1 ∨ vz = 2 := by rw [← hvz]; unfold verd; rw [if_neg hz]; split <;> simp
                have HVZ := Lib.hid hvz
                clear hz hvz
                refine (ritem_any _ _ _ (decT r) _ _ _ hT3 hn2).mono ?_
                rintro e w4 ⟨rfl, hb5⟩
                rw [HV.out]
                clear HV
                generalize itE (decT r) (decM r) (decW r) = ze at *
                have hd1 : (vz == 0) = false := beq_false_of_ne (by omega)
                have hd2 : (vz != 0) = true := bne_iff_ne.2 (by omega)
                have hJ := IBox.new w4 ⟨#[]⟩ 0 0
                have j0 := hJ.c0
                have j1 := hJ.c1
                have j2 := hJ.c2
                have f0 := hJ.frozen 0
                have f1 := hJ.frozen 1
                have f2 := hJ.frozen 2
                clear hJ
                have hO5 := ((hO3.below hb5).alloc (.cells #[.string ⟨#[]⟩, .int .i64 0, .int .u64 0] 47)).alloc (.cells #[.string ⟨#[]⟩, .int .i64 0, .int .u64 0, .int .i64 vz] 51)
                have hb6 := (below_then hb4 hb5).alloc (below_then hb4 hb5).size (.cells #[.string ⟨#[]⟩, .int .i64 0, .int .u64 0] 47)
                have hb7 := hb6.alloc hb6.size (.cells #[.string ⟨#[]⟩, .int .i64 0, .int .u64 0, .int .i64 vz] 51)
                have hz7 := hb7.size
                have hN5 := RdN.one' (w := w4.alloc (.cells #[.string ⟨#[]⟩, .int .i64 0, .int .u64 0] 47)) (h := w4.heap.size + 1) ⟨#[]⟩ 0 0 vz (by simp)
                have hlen5 : acc.length + 1 ≤ 1000000 := by omega
                clear y0 y1 y2 hT3 hO3 hb4 hb5 hb6
                go_wp2_with fail
                refine (rverdict_any _ _).mono ?_
                rintro e w5 ⟨rfl, rfl⟩
                rw [HVZ.out]
                go_wp2_with (at_builtin; refine wpList_appN rfl (.tmp 82) (.tmp 86) rfl w.heap.size _ acc rfl _ 1 1 _ rfl hO5 hN5 hlen5 hz7 ?_; intro v8 w8 hO8 hg8; have hb8 := Below.appN hb7 hO5 hg8 hz7 (Nat.le_refl _))
                clear hO5 hN5 hg8 hb7
                go_roundw
                case rel => exact ⟨k + 1, _, _, _, _, _, by omega, rfl, hq, hO8, HN'.out, hb8, by go_num⟩
                case measure => (simp [intOf] <;> omega)
          · have HX := Lib.hid (hK.err hlt he)
            have hv1 : (decE r == 0) = false := beq_false_of_ne he
            have hv2 : (decE r != 0) = true := bne_iff_ne.2 he
            clear he hK
            go_wp2_with fail
            refine (rdecode_any _ _ _ r _ (hr.below hb)).mono ?_
            rintro e w2 ⟨A2, n2, c2, rfl, hT2, hb2⟩
            have hO2 := (hO.below hb2).alloc (.cells #[.slice A2 n2 c2, .int .i64 (decM r), .int .u64 (decW r)] 30)
            have hb3 := (below_then hb hb2).alloc (below_then hb hb2).size (.cells #[.slice A2 n2 c2, .int .i64 (decM r), .int .u64 (decW r)] 30)
            clear hT2 hb hb2 hO hr
            go_wp2
            generalize w2.alloc (.cells #[.slice A2 n2 c2, .int .i64 (decM r), .int .u64 (decW r)] 30) = w3 at *
            go_loopw [8, 10] (fun v i W => ∃ j : Nat, k + j ≤ N ∧ OwnN W w.heap.size v (acc ++ List.replicate j badI) ∧ Below w.heap.size w W ∧ i = .int .u64 ((k + j : Nat) : Int)) (fun _ i _ => N - (intOf i).toNat)
            case atStart => exact ⟨0, by omega, by simpa using hO2, hb3, rfl⟩
            case round =>
              clear hO2 hb3
              obtain ⟨j, hj, hO, hb, rfl⟩ := hrel
              obtain ⟨q, hq⟩ : ∃ q, q = k + j := ⟨_, rfl⟩
              rw [← hq] at hj ⊢
              by_cases hjl : q < N
              · have hO5 := hO.alloc (.cells #[.string ⟨#[]⟩, .int .i64 0, .int .u64 0, .int .i64 1] 51)
                have hN5 := RdN.one' (w := wr) (⟨#[]⟩) 0 0 1 rfl
                have hb5 := hb.alloc hb.size (.cells #[.string ⟨#[]⟩, .int .i64 0, .int .u64 0, .int .i64 1] 51)
                have hz5 := hb5.size
                have hlen5 : (acc ++ List.replicate j badI).length + 1 ≤ 1000000 := by rw [List.length_append, List.length_replicate]; omega
                clear hO hb
                go_wp2_with (at_builtin; refine wpList_appN rfl (.tmp 55) (.tmp 57) rfl w.heap.size _ _ rfl _ 1 1 _ rfl hO5 hN5 hlen5 hz5 ?_; intro v6 w6 hO6 hg6; have hb6 := Below.appN hb5 hO5 hg6 hz5 (Nat.le_refl _))
                rw [show ((⟨#[]⟩, 0, 0, 1) : Inp) = badI from rfl, rep_snoc] at hO6
                go_roundw
                case rel => exact ⟨j + 1, by omega, hO6, hb6, by go_num⟩
                case measure => (simp [intOf] <;> omega)
              · obtain rfl : q = N := by omega
                rw [show j = q - k by omega] at hO
                go_wp2
                go_ret
                exact InsOut.mk' HX.out hO hb
        · obtain rfl : k = N := by omega
          have hm1' := hr.max
          have hc1' := hr.cap
          have hrl := hr.len
          by_cases h2 : 0 < n1
          · have HX := Lib.hid (hK.more (by omega))
            have hO5 := hO.alloc (.cells #[.string ⟨#[]⟩, .int .i64 0, .int .u64 0, .int .i64 1] 51)
            have hN5 := RdN.one' (w := wr) (⟨#[]⟩) 0 0 1 rfl
            have hb5 := hb.alloc hb.size (.cells #[.string ⟨#[]⟩, .int .i64 0, .int .u64 0, .int .i64 1] 51)
            have hz5 := hb5.size
            have hlen5 : acc.length + 1 ≤ 1000000 := by omega
            clear hK hO hb
            go_wp2_with (at_builtin; refine wpList_appN rfl (.tmp 91) (.tmp 93) rfl w.heap.size _ acc rfl _ 1 1 _ rfl hO5 hN5 hlen5 hz5 ?_; intro v6 w6 hO6 hg6; have hb6 := Below.appN hb5 hO5 hg6 hz5 (Nat.le_refl _))
            go_ret
            exact InsOut.mk' HX.out hO6 hb6
          · have HX := Lib.hid (hK.full (by omega))
            obtain rfl : n1 = 0 := by omega
            clear hK
            go_wp2
            go_ret
            exact InsOut.mk' HX.out hO hb
end Go.Proofs.Ytoaijnpkenflbaa
