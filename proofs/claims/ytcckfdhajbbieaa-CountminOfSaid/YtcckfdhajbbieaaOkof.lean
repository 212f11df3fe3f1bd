/- The statements about package countmin: CountminOf. Conditions: the program's sketches keep their contracts (ProgSk, ProgSo). -/
import Derived.Test.YtcckfdhajbbieaaOknew
namespace Go.Proofs.Ytcckfdhajbbieaa
open Go.ChangeShapes Go.WideShapes Go.ChangeAt Go.RowKit
set_option linter.unusedVariables false
set_option linter.unusedSimpArgs false
set_option maxRecDepth 100000

/-- A [][]uint64 that came in. -/
def ArgR (w : World) (A : Option Addr) (n c : Nat) : Prop := n ≤ c ∧ c ≤ 9223372036854775807 ∧ ∃ rows, RdR w A n c rows
set_option maxHeartbeats 4000000 in
theorem countminOf_walk {PK : RepSk} (HP : ProgSk PK) (HO : ProgSo) (R : Option Addr) (rn rc : Nat) (B : Option Addr) (p c : Nat) (A : Option Addr) (m d : Nat) (sd : Int) (key : ByteArray) (w : World) (hR : ArgR w R rn rc) (hB : ArgU w B p c) (hA : RdI w A m d) (s0 : 0 ≤ sd) (s1 : sd ≤ 18446744073709551615) (hk : key.size ≤ maxLen) :
    Calls Try.prog 5 #[.slice R rn rc, .slice B p c, .slice A m d, .int .u64 sd, .string key] w (Yes w) := by
  obtain ⟨hrc, hrm, rows, hR⟩ := hR
  obtain ⟨L, hB⟩ := hB
  have hcp := hB.cap
  have hcm := hB.max
  simp only [maxLen] at hk
  by_cases hg : 8 < rn ∨ 40 < p ∨ 100 < key.size
  · have hAw := fun W => kawake_any HP W
    by_cases g1 : 8 < rn
    · have g1' : (8 : Int) < (rn : Int) := by omega
      go_enter Try.func5, Try.ntmps5
      go_wp2_with fail
      refine (hAw _).mono ?_
      rintro e WI ⟨rfl, hbI⟩
      go_wp2
      go_ret
      exact ⟨rfl, hbI⟩
    by_cases g2 : 40 < p
    · have g1' : ¬ (8 : Int) < (rn : Int) := by omega
      have g2' : (40 : Int) < (p : Int) := by omega
      go_enter Try.func5, Try.ntmps5
      go_wp2_with fail
      refine (hAw _).mono ?_
      rintro e WI ⟨rfl, hbI⟩
      go_wp2
      go_ret
      exact ⟨rfl, hbI⟩
    have g1' : ¬ (8 : Int) < (rn : Int) := by omega
    have g2' : ¬ (40 : Int) < (p : Int) := by omega
    have g3' : (100 : Int) < (key.size : Int) := by omega
    go_enter Try.func5, Try.ntmps5
    go_wp2_with fail
    refine (hAw _).mono ?_
    rintro e WI ⟨rfl, hbI⟩
    go_wp2
    go_ret
    exact ⟨rfl, hbI⟩
  have g1 : ¬ (8 : Int) < (rn : Int) := by omega
  have g2 : ¬ (40 : Int) < (p : Int) := by omega
  have g3 : ¬ (100 : Int) < (key.size : Int) := by omega
  have HR := Lib.hid (And.intro hR (And.intro hB hA))
  clear hR hB hA
  go_enter Try.func5, Try.ntmps5
  go_wp2
  go_loopw [30] (fun i wr => ∃ q : Nat, q ≤ rn ∧ i = .int .i64 q ∧ wr = w) (fun i _ => rn - (intOf i).toNat)
  case atStart => exact ⟨0, by omega, rfl, rfl⟩
  case round =>
    obtain ⟨q, hq, rfl, hwr⟩ := hrel
    subst hwr
    by_cases hlt : q < rn
    · have hqi : (q : Int) < (rn : Int) := by omega
      obtain ⟨b, o, ⟨SA, sn, sc⟩, r, rfl, hr, cS, hRd⟩ := HR.out.1.at_ hlt
      have cS' : wr.cell? ⟨b, o + q, none⟩ = some (.slice SA sn sc) := cS
      clear cS hRd hr
      by_cases h4 : 400 < sn
      · have h4' : (400 : Int) < (sn : Int) := by omega
        go_wp2_with fail
        refine (kawake_any HP _).mono ?_
        rintro e WI ⟨rfl, hbI⟩
        clear cS'
        go_wp2
        go_ret
        exact ⟨rfl, hbI⟩
      · have h4' : ¬ (400 : Int) < (sn : Int) := by omega
        go_wp2
        go_roundw
        case rel => exact ⟨q + 1, by omega, by go_num, trivial⟩
        case measure => (simp [intOf] <;> omega)
    · have hqi : ¬ (q : Int) < (rn : Int) := by omega
      obtain ⟨hR, hB, hA⟩ := HR.out
      have D1 := DkS.new hA
      have hNd := new_any A m d wr
      obtain ⟨w1, hw1⟩ : ∃ w1, wr.alloc (.cells #[.slice A m d, .int .i64 0] 58) = w1 := ⟨_, rfl⟩
      rw [hw1] at hNd D1
      have hTd := table_dk D1.dk
      clear HR
      have HX := Lib.hid (And.intro hR hB)
      clear hR hB hA
      go_wp2_with fail
      refine hNd.mono ?_
      rintro e w2 ⟨rfl, hw2⟩
      subst hw2
      clear hNd
      go_wp2_with fail
      refine hTd.mono ?_
      rintro e w3 ⟨kt, ct, T, rfl, hT3, _, hD3, hg3⟩
      have b3 := (D1.deck hD3 hg3).1.since.below
      obtain ⟨u1, hu1⟩ : ∃ u, estT L sd rows key = u := ⟨_, rfl⟩
      obtain ⟨u2, hu2⟩ : ∃ u, estT T sd rows key = u := ⟨_, rfl⟩
      have hO := fun (W : World) {TA : Option Addr} {tn tc : Nat} {t : List Int} (h1 : RdR W R rn rc rows) (h2 : RdU W TA tn tc t) => HO.of (sd := sd) key W h1 h2 ⟨s0, s1⟩ (by omega) ⟨hrc, hrm⟩
      have hE := fun (W : World) {TA : Option Addr} {tn tc : Nat} {t : List Int} (h1 : RdR W R rn rc rows) (h2 : RdU W TA tn tc t) => rkEst (seed := sd) key W h1 h2 s0 s1 (by omega) ⟨hrc, hrm⟩
      have e1 : (u1 == u1) = true := by simp
      have e2 : (u2 == u2) = true := by simp
      have h3R := HX.out.1.below b3
      have h3B := HX.out.2.below b3
      clear hTd D1 hD3 hg3 hw1
      go_wp2_with fail
      refine (hO _ h3R h3B).mono ?_
      rintro e w4 ⟨rfl, hb4⟩
      rw [hu1]
      have b4 := below_then b3 hb4
      have h4T := hT3.below hb4
      clear b3 hb4 hT3 h3R h3B
      go_wp2_with fail
      refine (hE _ (HX.out.1.below b4) (HX.out.2.below b4)).mono ?_
      rintro e w5 ⟨rfl, j5, hw5⟩
      rw [hu1]
      have b5 : Below wr.heap.size wr w5 := by rw [hw5]; exact below_drewN b4 j5
      have h5T : RdU w5 (some ⟨kt, 0, none⟩) 16 ct T := by rw [hw5]; exact h4T.drewN j5
      clear b4 hw5 h4T
      go_wp2_with fail
      refine (hO _ (HX.out.1.below b5) h5T).mono ?_
      rintro e w6 ⟨rfl, hb6⟩
      rw [hu2]
      have b6 := below_then b5 hb6
      have h6T := h5T.below hb6
      clear b5 hb6 h5T
      go_wp2_with fail
      refine (hE _ (HX.out.1.below b6) h6T).mono ?_
      rintro e w7 ⟨rfl, j7, hw7⟩
      rw [hu2]
      have b7 : Below wr.heap.size wr w7 := by rw [hw7]; exact below_drewN b6 j7
      clear b6 hw7 h6T hu1 hu2 hO hE
      go_wp2_with fail
      refine (kawake_any HP _).mono ?_
      rintro e WI ⟨rfl, hbI⟩
      have hb := below_then b7 hbI
      clear b7 hbI
      go_wp2
      go_ret
      exact ⟨rfl, hb⟩
end Go.Proofs.Ytcckfdhajbbieaa
