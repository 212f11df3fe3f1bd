/- The statements about package countmin: CountminAlone. Conditions: the program's sketches keep their contracts (ProgSk). -/
import Derived.Test.YtcckfdhajbbieaaOkdeck
import Derived.Test.YtcckfdhajbbieaaU16
namespace Go.Proofs.Ytcckfdhajbbieaa
open Go.ChangeShapes Go.WideShapes Go.ChangeAt Go.RowKit
set_option linter.unusedVariables false
set_option linter.unusedSimpArgs false
set_option maxRecDepth 100000

theorem ixH_lt {T : List Int} {sd : Int} {n : Nat} (hn : 1 ≤ n) (k : ByteArray) (i : Nat) : ixH T sd k i n < n := by
  obtain ⟨q, hq, hl⟩ := slotP_bd (h := rowP T sd (i : Int) k) (n := n) (rowP_bd T sd i k).1 hn
  show (slotP _ (n : Int)).toNat < n
  rw [hq]
  omega
/-- One key alone was added: its estimate is the whole. -/
structure LnK (T : List Int) (sd : Int) (k : ByteArray) (s : KSt) (h : List (ByteArray × Int)) : Prop where
  only : OnlyK (ixH T sd) 7 s h
  all : freqE h k = s.sum
theorem LnK.est {T : List Int} {sd : Int} {k : ByteArray} {s : KSt} {h : List (ByteArray × Int)} (H : LnK T sd k s h) : estK (ixH T sd) s.rows k = s.sum := by
  have := H.only.est k
  have := H.all
  omega
theorem LnK.add {T : List Int} {sd x : Int} {k : ByteArray} {s : KSt} {h : List (ByteArray × Int)} (H : LnK T sd k s h) (hk : k.size ≠ 0) (hx : 0 < x) (hf : s.sum + x ≤ 9223372036854775808) :
    (s.add (ixH T sd) k x).1 = 0 ∧ LnK T sd k (s.add (ixH T sd) k x).2 ((k, x) :: h) ∧ (s.add (ixH T sd) k x).2.sum = s.sum + x ∧ ∀ k', estK (ixH T sd) s.rows k' ≤ estK (ixH T sd) (s.add (ixH T sd) k x).2.rows k' := by
  obtain ⟨h1, h2, h3⟩ := H.only.add (fun k i => ixH_lt (by omega) k i) hk hx (decide_eq_true hf)
  refine ⟨h1, ⟨h2, ?_⟩, h3, fun k' => est_mono H.only.good (fun k i => ixH_lt (by omega) k i) k k' (Int.le_of_lt hx)⟩
  rw [freq_cons, H.all, h3]
  show s.sum + (if k = k then x else 0) = _
  rw [if_pos rfl]
set_option maxHeartbeats 8000000 in
theorem countminAlone_walk {PK : RepSk} (HP : ProgSk PK) (A : Option Addr) (m d : Nat) (B : Option Addr) (p c : Nat) (sd : Int) (w : World) (hA : RdI w A m d) (hB : Arg16 w B p c) (s0 : 0 ≤ sd) (s1 : sd ≤ 18446744073709551615) :
    Calls Try.prog 8 #[.slice A m d, .slice B p c, .int .u64 sd] w (Yes w) := by
  obtain ⟨L, hB⟩ := hB
  have hcapB := hB.cap
  have hmaxB := hB.max
  have D1 := DkS.new hA
  have hNd := new_any A m d w
  obtain ⟨w1, hw1⟩ : ∃ w1, w.alloc (.cells #[.slice A m d, .int .i64 0] 58) = w1 := ⟨_, rfl⟩
  obtain ⟨gd, hgd⟩ : ∃ gd, w.heap.size = gd := ⟨_, rfl⟩
  rw [hw1] at hNd D1
  rw [hgd] at hNd D1
  have hTd := table_dk D1.dk
  go_enter Try.func8, Try.ntmps8
  go_wp2_with fail
  refine hNd.mono ?_
  rintro e w2 ⟨rfl, hw2⟩
  subst hw2
  clear hNd
  go_wp2_with fail
  refine hTd.mono ?_
  rintro e w3 ⟨kt, ct, T, rfl, hT3, _, hD3, hg3⟩
  have D3 := (D1.deck hD3 hg3).1
  have hN := HP.new (k := 16) D3.tidy (by omega) hT3 2 7 (by unfold J64; omega) (by unfold J64; omega) ⟨s0, s1⟩
  have hc : ckE 2 7 16 = 0 := by decide
  clear hTd D1 hD3 hg3 hw1 hA hgd
  go_wp2_with fail
  refine hN.mono ?_
  rintro e w4 (⟨_, g, rfl, hd⟩ | ⟨h0, _⟩)
  rotate_left
  · exact absurd hc h0
  obtain ⟨col4, T4⟩ := DkSk.start D3 hd
  have O4 : LnK T sd ⟨#[111, 110, 108, 121]⟩ (newK 2 7) [] := ⟨OnlyK.new (by omega) (by omega), rfl⟩
  have T4' : DkSk PK w gd A m d g T sd col4 (newK 2 7) w4 := T4
  clear hN hc hT3 D3 hd T4
  go_wp2
  go_loopw [10, 11, 12] (fun fv lv iv wr => ∃ (i : Nat) (la : Int) (col : Col) (s : KSt) (h : List (ByteArray × Int)), i ≤ p ∧ i ≤ 50 ∧ iv = .int .i64 (i : Int) ∧ fv = .int .u64 s.sum ∧ lv = .int .u64 la ∧ DkSk PK w gd A m d g T sd col s wr ∧ LnK T sd ⟨#[111, 110, 108, 121]⟩ s h ∧ s.sum ≤ 65536 * (i : Int) ∧ la ≤ estK (ixH T sd) s.rows ⟨#[111, 116, 104, 101, 114]⟩) (fun _ _ iv _ => p - (intOf iv).toNat)
  case atStart =>
    have := (O4.only.good.est_bd (ix := ixH T sd) ⟨#[111, 116, 104, 101, 114]⟩).1
    exact ⟨0, 0, col4, newK 2 7, [], Nat.zero_le _, Nat.zero_le _, rfl, rfl, rfl, T4', O4, by simp [newK], this⟩
  case round =>
    clear T4' O4
    obtain ⟨i, la, col, s, h, hip, hi50, rfl, rfl, rfl, T5, O5, hsum, hla⟩ := hrel
    by_cases hend : i < p ∧ i < 50
    · have hpi : (i : Int) < (p : Int) := by omega
      have h5i : (i : Int) < 50 := by omega
      obtain ⟨bB, oB, x, rfl, hx, hx0, hx1, cS⟩ := (hB.below T5.ds.since.below).at_ hend.1
      have hcell : ∀ W, Below w.heap.size w W → W.cell? ⟨bB, oB + i, none⟩ = some (.int .u16 x) := fun W hb => by
        obtain ⟨b, o, x', e1, e2, _, _, e5⟩ := (hB.below hb).at_ hend.1
        injection e1 with e1; injection e1 with e1 e1'; subst e1 e1'
        rw [hx] at e2; injection e2 with e2; subst e2; exact e5
      have hux : IntKind.u64.wrap x = x := IntWalk.u64_in _ ⟨by omega, by omega⟩
      have hu1 : IntKind.u64.wrap (1 + x) = 1 + x := IntWalk.u64_in _ ⟨by omega, by omega⟩
      have hs0 := O5.only.good.sum0
      obtain ⟨a1, a2, a3, a4⟩ := O5.add (x := 1 + x) (by decide) (by omega) (by omega)
      have hAd := HP.add T5.pt T5.tidy ⟨#[111, 110, 108, 121]⟩ (1 + x) (by decide) ⟨by omega, by omega⟩
      rw [a1] at hAd
      have hsw : IntKind.u64.wrap (s.sum + (1 + x)) = s.sum + (1 + x) := IntWalk.u64_in _ ⟨by omega, by omega⟩
      have HO := Lib.hid (And.intro a2 (And.intro a4 (And.intro hla hsum)))
      have HT := Lib.hid T5
      clear a1 a2 a4 O5 T5 hla hx
      go_wp2_with fail
      refine hAd.mono ?_
      rintro e w6 ⟨rfl, hd⟩
      obtain ⟨col6, T6, _⟩ := HT.out.did hd
      have c6 := hcell _ T6.ds.since.below
      generalize (s.add (ixH T sd) ⟨#[111, 110, 108, 121]⟩ (1 + x)).2 = s6 at *
      have hEs := HP.est T6.pt T6.tidy ⟨#[111, 116, 104, 101, 114]⟩ (by decide)
      obtain ⟨v, hv⟩ : ∃ v, estK (ixH T sd) s6.rows ⟨#[111, 116, 104, 101, 114]⟩ = v := ⟨_, rfl⟩
      rw [hv] at hEs
      have hlv : ¬ v < la := by
        have h1 := HO.out.2.1 ⟨#[111, 116, 104, 101, 114]⟩
        have h2 := HO.out.2.2.1
        rw [hv] at h1
        omega
      have HV := Lib.hid hv
      clear hAd hd HT cS hv
      go_wp2_with fail
      refine hEs.mono ?_
      rintro e w7 ⟨rfl, hb7⟩
      have HT7 := Lib.hid (T6.below HP hb7)
      clear T6 hEs hb7 c6
      go_wp2
      go_roundw
      case rel => exact ⟨i + 1, v, col6, s6, _, by omega, by omega, by go_num, by rw [a3], rfl, HT7.out, HO.out.1, by rw [a3]; have := HO.out.2.2.2; omega, by rw [HV.out]; exact Int.le_refl _⟩
      case measure => (simp [intOf] <;> omega)
    · have hcs : ¬ (i : Int) < (p : Int) ∨ ((i : Int) < (p : Int) ∧ ¬ (i : Int) < 50) := by omega
      have hE := HP.est T5.pt T5.tidy ⟨#[111, 110, 108, 121]⟩ (by decide)
      rw [O5.est] at hE
      have hss : (s.sum == s.sum) = true := by simp
      have HT := Lib.hid T5
      clear O5 hsum hla hend T5
      rcases hcs with hpi | ⟨hpi, h5i⟩
      all_goals
        go_wp2_with fail
        refine hE.mono ?_
        rintro e w6 ⟨rfl, hb6⟩
        have T6 := HT.out.below HP hb6
        have hTo := HP.total T6.pt T6.tidy
        clear hE hb6 HT
        go_wp2_with fail
        refine hTo.mono ?_
        rintro e w7 ⟨rfl, hb7⟩
        have b7 := (T6.below HP hb7).ds.since.below
        clear T6 hTo hb7
        go_wp2_with fail
        refine (kawake_any HP _).mono ?_
        rintro e WI ⟨rfl, hbI⟩
        have hb := below_then b7 hbI
        clear b7 hbI
        go_wp2
        go_ret
        exact ⟨rfl, hb⟩
end Go.Proofs.Ytcckfdhajbbieaa
