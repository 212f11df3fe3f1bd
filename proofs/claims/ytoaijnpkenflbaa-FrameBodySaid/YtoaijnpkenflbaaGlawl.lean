/- heavykeyslaw05.FrameLength returns true, whatever the input. Conditions: none beyond those typed. -/
import Derived.Test.YtoaijnpkenflbaaGlaws
namespace Go.Proofs.Ytoaijnpkenflbaa
open Go.ChangeShapes Go.WideShapes Go.ChangeAt Go.RowKit
set_option linter.unusedVariables false
set_option linter.unusedSimpArgs false
set_option maxRecDepth 100000

theorem frO_ok {L : List Ev} (h : bdE L = 0) : frO L = enc (bdB L).length ++ bdB L := if_pos h
theorem fit_wts {L : List Ev} (h : ∀ e ∈ L, Fit e) : Wts L := fun e he => (h e he).2.2.2
theorem rd_frame {b : List Int} (hb : Byt b) (hl : b.length ≤ 4096) : rdN (enc b.length ++ b) = b.length ∧ rdK (enc b.length ++ b) = (enc b.length).length ∧ rdE (enc b.length ++ b) = 0 ∧ (enc b.length ++ b).drop (enc b.length).length = b := by
  obtain ⟨h1, h2, h3⟩ := rd_back b.length b (by omega) fun z hz => (hb z hz).1
  exact ⟨h1, h2, h3, List.drop_left' rfl⟩
set_option maxHeartbeats 1000000 in
theorem frameLength_walk (B : Option Addr) (m d : Nat) (w : World) (hB : RdI w B m d) :
    Calls Try.prog 6 #[.slice B m d] w (Yes w) := by
  go_enter Try.func6, Try.ntmps6
  go_wp2_with fail
  refine (new_any _ _ _ _).mono ?_
  rintro e w1 ⟨rfl, rfl⟩
  go_wp2_with fail
  refine (events_any 50 10 (Dk.new hB) (by omega) (by omega)).mono ?_
  rintro e w2 ⟨A2, n2, c2, L, rfl, hE2, hn1, hn2, hF, hD2, -⟩
  have hB2 := hD2.low
  have hLl := hE2.len
  have hbE := bdE_fit hF (by omega) (by omega)
  have hbO := bdO_ok hbE
  have hfO := frO_ok hbE
  have hW := fit_wts hF
  have htwo := bdB_two (L := L) (by omega)
  obtain ⟨f1, f2, f3, f4⟩ := rd_frame (bdB_bytes L) hbO.2
  have hW := Lib.hid hW
  clear hD2 hF
  go_wp2_with fail
  refine (body_any _ _ _ L _ hE2 hW.out).mono ?_
  rintro e w3 ⟨A3, n3, c3, rfl, hr3, hb3⟩
  rw [hbO.1] at hr3
  rw [hbE]
  have hB3 := below_then hB2 hb3
  have hE3 := hE2.below hb3
  clear hB2 hE2 hb3
  go_wp2_with fail
  refine (frame_any _ _ _ L _ hE3 hW.out).mono ?_
  rintro e w4 ⟨A4, n4, c4, rfl, hr4, hb4⟩
  rw [hfO] at hr4
  rw [hbE]
  have hB4 := below_then hB3 hb4
  have hr3' := hr3.below hb4
  have hl3 := hr3.len
  have hl4 := hr4.len
  rw [List.length_append, hl3] at hl4
  rw [hl3] at f1 f2 f3 f4 hr4
  obtain ⟨u, hu⟩ : ∃ u, (enc n3).length = u := ⟨_, rfl⟩
  rw [hu] at f2 f4 hl4
  have hu10 := enc_ten (n := n3) (by omega)
  rw [hu] at hu10
  obtain ⟨b4, o4, rfl⟩ := hr4.some_of (by omega)
  have hcap := hr4.cap
  have hmx := hr4.max
  have hun : u ≤ n4 := by omega
  have hui : (u : Int) ≤ (n4 : Int) := by omega
  have huc : (u : Int) ≤ (c4 : Int) := by omega
  have hnc : (n4 : Int) ≤ (c4 : Int) := by omega
  have hne : ¬ c4 = u := by omega
  have hrd := hr4.drop hun
  rw [f4] at hrd
  have hsub : n4 - u = n3 := by omega
  rw [hsub] at hrd
  have F1 := Lib.hid f1
  have F2 := Lib.hid f2
  have F3 := Lib.hid f3
  have HS := Lib.hid hsub
  have hn3 : n3 ≤ 4096 := by omega
  clear hr3 hE3 hb4 hB3 f1 f2 f3 f4 hbE hbO hfO hu hl3 hl4 hLl htwo hsub hW
  go_wp2_with fail
  refine (read_any _ _ _ _ _ hr4).mono ?_
  rintro e w5 ⟨rfl, rfl⟩
  rw [F1.out, F2.out, F3.out]
  go_wp2_with (first | (go_at_call 14; rw [HS.out]; refine (same_yes _ _ _ _ _ _ _ hrd hr3').mono ?_; rintro e w6 ⟨rfl, j, rfl⟩; have hB5 := below_drewN hB4 j) | (go_at_call 15; refine (awake_any _).mono ?_; rintro e w7 ⟨rfl, hb7⟩; have hB7 := below_then hB5 hb7))
  go_ret
  exact ⟨rfl, hB7⟩
end Go.Proofs.Ytoaijnpkenflbaa
