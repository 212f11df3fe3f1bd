/- The statements about package frequent: FrequentHeavy. Conditions: the program's tables keep their contracts (ProgF). -/
import Derived.Test.YtgkokglngpbamaaGdeck
namespace Go.Proofs.Ytgkokglngpbamaa
open Go.ChangeShapes Go.WideShapes Go.ChangeAt Go.RowKit
set_option linter.unusedVariables false
set_option linter.unusedSimpArgs false
set_option maxRecDepth 100000

/-- The key "heavy". -/
def fhvy : ByteArray := ⟨#[104, 101, 97, 118, 121]⟩
theorem fhvy_no {s : ByteArray} (h : 2 ≤ s.size ∧ s.size ≤ 3) : s ≠ fhvy := fun e => by
  subst e
  have : fhvy.size = 5 := rfl
  omega
/-- A key with more than its part of the weight is there. -/
theorem fheavy_there {t : TSt} {h : List (ByteArray × Int)} {k : ByteArray} (O : OnlyF t h) (hf : ¬ freqE h k ≤ t.sum / ((t.m : Int) + 1)) : ∃ e, t.getF k = (e, true) ∧ freqE h k ≤ ctE e ∧ True := by
  have G := O.good
  have h1 := G.sums.2.2.2.2
  have h2 : t.base ≤ t.sum / ((t.m : Int) + 1) := by
    rw [Int.le_ediv_iff_mul_le (by omega), Int.mul_comm]
    exact h1
  cases hp : placeE t.l k with
  | none =>
    have := O.out k fun e he => placeE_none hp e he
    omega
  | some i =>
    obtain ⟨e, hi, he, _⟩ := placeE_some hp
    have h3 := (O.in_ e (List.mem_of_getElem? hi)).2
    rw [he] at h3
    refine ⟨t.tellF e, ?_, h3, trivial⟩
    unfold TSt.getF
    rw [hp]
    show (t.tellF ((t.l[i]?).getD zeroE), true) = _
    rw [hi]; rfl
theorem getF_ct {t : TSt} (G : GoodF t) (k : ByteArray) : 0 ≤ (t.getF k).1.2.1 ∧ 0 ≤ (t.getF k).1.2.2 ∧ (t.getF k).1.2.1 + (t.getF k).1.2.2 ≤ 9223372036854775808 := by
  unfold TSt.getF
  cases hp : placeE t.l k with
  | none => exact ⟨Int.le_refl _, Int.le_refl _, by show (0 : Int) + 0 ≤ _; omega⟩
  | some i =>
    obtain ⟨e, hi, _, _⟩ := placeE_some hp
    show 0 ≤ (t.tellF ((t.l[i]?).getD zeroE)).2.1 ∧ 0 ≤ (t.tellF ((t.l[i]?).getD zeroE)).2.2 ∧ (t.tellF ((t.l[i]?).getD zeroE)).2.1 + (t.tellF ((t.l[i]?).getD zeroE)).2.2 ≤ _
    rw [hi]
    obtain ⟨b1, _, b3⟩ := G.bd (List.mem_of_getElem? hi)
    have := G.top
    have := G.base0
    exact ⟨by show 0 ≤ e.2.1; omega, by show 0 ≤ t.base; omega, by show e.2.1 + t.base ≤ _; omega⟩
set_option maxHeartbeats 16000000 in
theorem frequentHeavy_walk {PT : RepF} (HP : ProgF PT) (n : Int) (A : Option Addr) (m d : Nat) (B : Option Addr) (p c : Nat) (w : World) (n0 : 0 ≤ n) (n1 : n ≤ 255) (hA : RdI w A m d) (hB : Arg w B p c) :
    Calls Try.prog 7 #[.int .u8 n, .slice A m d, .slice B p c] w (Yes w) := by
  obtain ⟨hpc, hcm, L, hL⟩ := hB
  have hS0 := Since.start w
  obtain ⟨a, rfl⟩ : ∃ a : Nat, n = (a : Int) := ⟨n.toNat, by omega⟩
  have hw0 : IntKind.i64.wrap (a : Int) = (a : Int) := by rw [IntKind.wrap_i64]; omega
  obtain ⟨r, hr⟩ : ∃ r : Nat, (a : Int).tmod 8 = (r : Int) := ⟨((a : Int).tmod 8).toNat, by rw [Int.tmod_eq_emod_of_nonneg (by omega)]; omega⟩
  have hr8 : r < 8 := by rw [Int.tmod_eq_emod_of_nonneg (by omega)] at hr; omega
  have hr2 : (a : Int) % 8 = (r : Int) := by rw [Int.tmod_eq_emod_of_nonneg (by omega)] at hr; exact hr
  obtain ⟨N, hN⟩ : ∃ N : Nat, 1 + r = N := ⟨_, rfl⟩
  have hw1 : IntKind.i64.wrap (1 + (r : Int)) = (N : Int) := by rw [IntKind.wrap_i64]; omega
  have hwr : IntKind.i64.wrap (r : Int) = (r : Int) := by rw [IntKind.wrap_i64]; omega
  have hN8 : 1 ≤ N ∧ N ≤ 8 := by omega
  have hnew := HP.new (k := 16) hS0.tidy (by omega) (N : Int) (by unfold J64; omega)
  have hE : svE (N : Int) = 0 := if_neg (by omega)
  clear hN hr8
  go_enter Try.func7, Try.ntmps7
  go_wp2_with fail
  refine hnew.mono ?_
  rintro e w2 (⟨_, g, rfl, col2, p2, s2⟩ | ⟨h0, _⟩)
  rotate_left
  · rw [hE] at h0; cases h0
  rw [Int.toNat_natCast] at p2
  have A2 : AtF PT w col2 w2 16 g (newT N) := ⟨hS0.step s2 (rng0 (by omega)), p2⟩
  clear hS0 s2 p2 hnew hw0 hr hr2 hw1 hwr hE
  have hNd := new_any A m d w2
  go_wp2_with fail
  refine hNd.mono ?_
  rintro e w3 ⟨rfl, rfl⟩
  have T3 := DkF.start HP A2 hA
  have O3 : OnlyF (newT N) [] := OnlyF.new (by omega)
  generalize w2.heap.size = gd at *
  generalize w2.alloc (.cells #[.slice A m d, .int .i64 0] 77) = w3 at *
  clear hNd A2
  go_wp2
  go_loopw [11, 12] (fun hv iv wr => ∃ (i : Nat) (col : Col) (t : TSt) (h : List (ByteArray × Int)) (y : Int), i ≤ p ∧ i ≤ 80 ∧ hv = .int .u64 y ∧ y = freqE h fhvy ∧ iv = .int .i64 (i : Int) ∧ DkF PT w gd A m d g col t wr ∧ OnlyF t h ∧ t.m = N ∧ t.sum ≤ 256 * (i : Int) ∧ 0 ≤ y ∧ y ≤ 256 * (i : Int)) (fun _ iv _ => p - (intOf iv).toNat)
  case atStart => exact ⟨0, _, newT N, [], 0, Nat.zero_le _, Nat.zero_le _, rfl, rfl, rfl, T3, O3, rfl, by simp [newT], Int.le_refl _, by simp⟩
  case round =>
    clear T3 O3
    obtain ⟨i, col, t, h, y, hip, hi80, rfl, hy, rfl, T, O, htm, hsum, hy0, hy1⟩ := hrel
    by_cases hend : i < p ∧ i < 80
    · have hpi : (i : Int) < (p : Int) := by omega
      have h8i : (i : Int) < 80 := by omega
      have hall : ∀ W, Below w.heap.size w W → ∃ b o x, B = some ⟨b, o, none⟩ ∧ L[i]? = some x ∧ 0 ≤ x ∧ x ≤ 255 ∧ W.cell? ⟨b, o + i, none⟩ = some (.int .u8 x) := fun W hb => by
        obtain ⟨b, o, x, e1, e2, e3, e4, _, e5⟩ := (hL.below hb).at_ (k := i) hend.1
        exact ⟨b, o, x, e1, e2, e3, e4, e5⟩
      obtain ⟨bB, oB, x, rfl, hx, hx0, hx1, cS⟩ := hall wr T.ds.since.below
      have hcell : ∀ W, Below w.heap.size w W → W.cell? ⟨bB, oB + i, none⟩ = some (.int .u8 x) := fun W hb => by
        obtain ⟨b, o, x', e1, e2, _, _, e5⟩ := hall W hb
        injection e1 with e1; injection e1 with e1 e1'; subst e1 e1'
        rw [hx] at e2; injection e2 with e2; subst e2; exact e5
      have hux : IntKind.u64.wrap x = x := IntWalk.u64_in _ ⟨by omega, by omega⟩
      have hu1 : IntKind.u64.wrap (1 + x) = 1 + x := IntWalk.u64_in _ ⟨by omega, by omega⟩
      have hfit : fitsB t.sum (1 + x) = true := fits_yes (by omega)
      obtain ⟨Y, hY⟩ : ∃ Y, bits .and .u8 x 1 = Y := ⟨_, rfl⟩
      have HL := Lib.hid hL
      clear hall hx hL
      by_cases hY0 : Y = 0
      · have e0 : (Y == 0) = true := beq_iff_eq.2 hY0
        obtain ⟨a1, a2, a3, a4⟩ := O.addF (k := fhvy) (w := 1 + x) (by decide) (by omega) hfit
        have hC := HP.add T.pt T.tidy fhvy (1 + x) (by unfold Sz; exact Nat.le_trans (show fhvy.size ≤ 5 from Nat.le_refl 5) (by omega)) ⟨by omega, by omega⟩
        rw [a1] at hC
        have hys : IntKind.u64.wrap (y + (1 + x)) = y + (1 + x) := IntWalk.u64_in _ ⟨by omega, by omega⟩
        have HF := Lib.hid (show y + (1 + x) = freqE ((fhvy, 1 + x) :: h) fhvy by rw [freq_cons, hy, if_pos rfl])
        have HO := Lib.hid (And.intro a2 (And.intro a3 a4))
        have HT := Lib.hid T
        generalize (t.addF fhvy (1 + x)).2 = t2 at *
        unfold fhvy at hC
        clear a2 a3 a4 hfit O hy hY0 T
        go_wp2_with fail
        refine hC.mono ?_
        rintro e w5 ⟨rfl, hd⟩
        obtain ⟨col5, T5⟩ := HT.out.did hd
        clear hd HT hC
        go_wp2
        go_roundw
        case rel => exact ⟨i + 1, col5, t2, _, y + (1 + x), by omega, by omega, by first | rfl | go_num, HF.out, by go_num, T5, HO.out.1, by rw [HO.out.2.2, htm], by rw [HO.out.2.1]; omega, by omega, by omega⟩
        case measure => (simp [intOf] <;> omega)
      · have e0 : (Y == 0) = false := beq_false_of_ne hY0
        have hbw : ∀ W, Below wr.heap.size wr W → Below w.heap.size w W := fun W hb => below_then T.ds.since.below hb
        have bd := (Below.refl wr.heap.size wr).drew
        have Td := T.below HP bd
        have hSh := short_dk Td.ds.dk
        have HTd := Lib.hid Td
        have HO := Lib.hid O
        have HY := Lib.hid (And.intro hy (And.intro htm (And.intro hsum hfit)))
        have cSd := hcell wr.drew (hbw _ bd)
        clear T Td O hy hfit hY0
        go_wp2_with fail
        go_region_held3 (fun W => W.cell? ⟨bB, oB + i, none⟩ = some (.int .u8 x)) (first | exact cSd | exact hcell _ T6.ds.since.below | exact hcell _ T5.ds.since.below) (first
          | (go_at_call 20; refine hSh.mono ?_; rintro e w5 ⟨s, hs, rfl, hD, hg⟩; have T5 := HTd.out.deck HP hD hg; clear hD hg)
          | (go_at_call 13; refine (HP.add T5.pt T5.tidy s (1 + x) (short_sz' hs) ⟨by omega, by omega⟩).mono ?_; rintro e w6 ⟨rfl, hd⟩; obtain ⟨col6, T6⟩ := T5.did hd; clear hd))
        all_goals
          obtain ⟨a1, a2, a3, a4⟩ := HO.out.addF (k := s) (w := 1 + x) (by omega) (by omega) HY.out.2.2.2
          have HF := Lib.hid (show y = freqE ((s, 1 + x) :: h) fhvy by rw [freq_cons, HY.out.1, if_neg (fhvy_no hs)]; omega)
          have HO2 := Lib.hid (And.intro a2 (And.intro a3 a4))
          generalize (t.addF s (1 + x)).2 = t2 at *
          clear a1 a2 a3 a4 hSh cSd T5 HTd HO
          go_wp2
          go_roundw
          case rel => exact ⟨i + 1, col6, t2, _, y, by omega, by omega, rfl, HF.out, by go_num, T6, HO2.out.1, by rw [HO2.out.2.2, HY.out.2.1], by rw [HO2.out.2.1]; have := HY.out.2.2.1; omega, by omega, by omega⟩
          case measure => (simp [intOf] <;> omega)
    · have hcs : ¬ (i : Int) < (p : Int) ∨ ((i : Int) < (p : Int) ∧ ¬ (i : Int) < 80) := by omega
      have G := O.good
      have hC := HP.get T.pt T.tidy fhvy (by unfold Sz; exact Nat.le_trans (show fhvy.size ≤ 5 from Nat.le_refl 5) (by omega))
      obtain ⟨q0, q1, q2⟩ := getF_ct G fhvy
      have hth := Lib.hid (fheavy_there (k := fhvy) O)
      have hs0 := G.sums.2.2.1
      obtain ⟨N1, hN1⟩ : ∃ N1 : Nat, N + 1 = N1 := ⟨_, rfl⟩
      have hwN0 : IntKind.i64.wrap ((N : Int) + 1) = (N1 : Int) := by rw [IntKind.wrap_i64]; omega
      have hwN : IntKind.u64.wrap (N1 : Int) = (N1 : Int) := IntWalk.u64_in _ ⟨by omega, by omega⟩
      have hN0 : ¬ (N1 : Int) = 0 := by omega
      have HT := Lib.hid T
      obtain ⟨Q, hQ⟩ : ∃ Q, t.sum / (N1 : Int) = Q := ⟨_, rfl⟩
      have htd : t.sum.tdiv (N1 : Int) = Q := by rw [Int.tdiv_eq_ediv_of_nonneg hs0, hQ]
      have hQ0 : 0 ≤ Q ∧ Q ≤ t.sum := by rw [← hQ]; exact ⟨Int.ediv_nonneg hs0 (by omega), Int.ediv_le_self _ hs0⟩
      have htop := G.top
      have hwQ : IntKind.u64.wrap Q = Q := IntWalk.u64_in _ ⟨by omega, by omega⟩
      obtain ⟨x, b, hgx, hxy⟩ : ∃ (x : En) (b : Bool), t.getF fhvy = (x, b) ∧ (y ≤ Q ∨ (b = true ∧ y ≤ x.2.1 + x.2.2)) := by
        by_cases hle : y ≤ Q
        · exact ⟨(t.getF fhvy).1, (t.getF fhvy).2, rfl, .inl hle⟩
        · obtain ⟨e, he, h1, _⟩ := hth.out (by rw [htm, show ((N : Int) + 1) = (N1 : Int) by omega, hQ, ← hy]; exact hle)
          exact ⟨e, true, he, .inr ⟨rfl, by rw [hy]; exact h1⟩⟩
      rw [hgx] at hC q0 q1 q2
      have hwx : IntKind.u64.wrap (x.2.1 + x.2.2) = x.2.1 + x.2.2 := IntWalk.u64_in _ ⟨by have : 0 ≤ x.2.1 := q0; have : 0 ≤ x.2.2 := q1; omega, by have : x.2.1 + x.2.2 ≤ _ := q2; omega⟩
      unfold fhvy at hC
      obtain ⟨S0, hS0⟩ : ∃ z, t.sum = z := ⟨_, rfl⟩
      rw [hS0] at htd
      have HS := Lib.hid hS0
      clear hth hgx hN1 hQ htop hQ0 hs0 q0 q1 q2 hL hA O G T hy hsum htm hS0 hend
      have hfin : ∀ W, Below wr.heap.size wr W → Calls Try.prog 18 #[] W fun e w' => e = .returned (.bool true) ∧ Below w.heap.size w w' := fun W hb =>
        (fawake_any HP W).mono fun e w' h => ⟨h.1, ((HT.out.below HP hb).ds.since.belowL h.2).below⟩
      have hTo : ∀ W, Below wr.heap.size wr W → Calls Try.prog 15 #[.pointer (some ⟨g, 0, none⟩)] W fun e w' => e = .returned (.int .u64 S0) ∧ Below W.heap.size W w' := fun W hb => by
        have h := HP.total (HT.out.below HP hb).pt (HT.out.below HP hb).tidy
        rw [HS.out] at h
        exact h
      have HFin := Lib.hid hfin
      have HTo := Lib.hid hTo
      clear hfin hTo HT HS
      rcases hcs with hpi | ⟨hpi, h8i⟩
      all_goals
        go_wp2_with fail
        refine hC.mono ?_
        rintro e w5 ⟨rfl, b5⟩
        have b6 : Below wr.heap.size wr (w5.alloc (.cells (VE x) 32)) := b5.alloc b5.size _
        have v1 : (w5.alloc (.cells (VE x) 32)).cell? ⟨w5.heap.size, 1, none⟩ = some (.int .u64 x.2.1) := (World.cell?_alloc_at (w := w5) _ _ _ _ rfl).trans rfl
        have v2 : (w5.alloc (.cells (VE x) 32)).cell? ⟨w5.heap.size, 2, none⟩ = some (.int .u64 x.2.2) := (World.cell?_alloc_at (w := w5) _ _ _ _ rfl).trans rfl
        have hTt := HTo.out _ b6
        clear hC HTo
        go_wp2_with fail
        refine hTt.mono ?_
        rintro e w7 ⟨rfl, b7⟩
        have y1' := (cellB v1 b7).1
        have y2' := (cellB v2 b7).1
        have hAw := HFin.out _ (below_then b6 b7)
        clear hTt HFin v1 v2 b5 b6 b7
        rcases hxy with hle | ⟨rfl, hle⟩
        · go_wp2_with fail
          refine hAw.mono ?_
          rintro e w8 ⟨rfl, hb⟩
          clear hAw y1' y2'
          go_wp2
          go_ret
          exact ⟨rfl, hb⟩
        · by_cases hle2 : y ≤ Q
          · go_wp2_with fail
            refine hAw.mono ?_
            rintro e w8 ⟨rfl, hb⟩
            clear hAw y1' y2'
            go_wp2
            go_ret
            exact ⟨rfl, hb⟩
          · have hge : x.2.1 + x.2.2 ≥ y := hle
            go_wp2_with fail
            refine hAw.mono ?_
            rintro e w8 ⟨rfl, hb⟩
            clear hAw y1' y2'
            go_wp2
            go_ret
            exact ⟨rfl, hb⟩
end Go.Proofs.Ytgkokglngpbamaa
