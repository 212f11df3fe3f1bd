/- The statements about package countmin: CountminBounds. Conditions: the program's sketches keep their contracts (ProgSk). -/
import Derived.Test.YtcckfdhajbbieaaOkrows
import Derived.Test.YtcckfdhajbbieaaKtext
import Derived.Test.YtcckfdhajbbieaaKold
import Derived.Test.YtcckfdhajbbieaaHist
namespace Go.Proofs.Ytcckfdhajbbieaa
open Go.ChangeShapes Go.WideShapes Go.ChangeAt Go.RowKit
set_option linter.unusedVariables false
set_option linter.unusedSimpArgs false
set_option maxRecDepth 100000

theorem DkSk.row {PK : RepSk} {w W W' : World} {gd m d g : Nat} {A : Option Addr} {T : List Int} {sd : Int} {col col' : Col} {q : KSt} (HP : ProgSk PK) (h : DkSk PK w gd A m d g T sd col q W) (s : StepC (fun c => c = 2) col W col' W') : DkSk PK w gd A m d g T sd col' q W' :=
  ⟨h.ds.step s (by omega) (by omega), HP.keep h.pt s (fun c hc e => by have := hc.1; omega) (by omega)⟩
set_option maxHeartbeats 32000000 in
theorem countminBounds_walk {PK : RepSk} (HP : ProgSk PK) (dp wd : Int) (A : Option Addr) (m d : Nat) (B : Option Addr) (p c : Nat) (sd : Int) (w : World) (d0 : 0 ≤ dp) (d1 : dp ≤ 255) (n0 : 0 ≤ wd) (n1 : wd ≤ 255) (hA : RdI w A m d) (hB : Arg16 w B p c) (s0 : 0 ≤ sd) (s1 : sd ≤ 18446744073709551615) :
    Calls Try.prog 6 #[.int .u8 dp, .int .u8 wd, .slice A m d, .slice B p c, .int .u64 sd] w (Yes w) := by
  obtain ⟨L, hB⟩ := hB
  have hcapB := hB.cap
  have hmaxB := hB.max
  obtain ⟨a, rfl⟩ : ∃ a : Nat, dp = (a : Int) := ⟨dp.toNat, by omega⟩
  obtain ⟨b, rfl⟩ : ∃ b : Nat, wd = (b : Int) := ⟨wd.toNat, by omega⟩
  have hwa : IntKind.i64.wrap (a : Int) = (a : Int) := by rw [IntKind.wrap_i64]; omega
  have hwb : IntKind.i64.wrap (b : Int) = (b : Int) := by rw [IntKind.wrap_i64]; omega
  obtain ⟨ra, hra, hra4⟩ : ∃ r : Nat, (a : Int).tmod 4 = (r : Int) ∧ r < 4 := ⟨((a : Int).tmod 4).toNat, by rw [Int.tmod_eq_emod_of_nonneg (by omega)]; omega, by rw [Int.tmod_eq_emod_of_nonneg (by omega)]; omega⟩
  obtain ⟨rb, hrb, hrb20⟩ : ∃ r : Nat, (b : Int).tmod 20 = (r : Int) ∧ r < 20 := ⟨((b : Int).tmod 20).toNat, by rw [Int.tmod_eq_emod_of_nonneg (by omega)]; omega, by rw [Int.tmod_eq_emod_of_nonneg (by omega)]; omega⟩
  have hra2 : (a : Int) % 4 = (ra : Int) := by rw [Int.tmod_eq_emod_of_nonneg (by omega)] at hra; exact hra
  have hrb2 : (b : Int) % 20 = (rb : Int) := by rw [Int.tmod_eq_emod_of_nonneg (by omega)] at hrb; exact hrb
  obtain ⟨M, hM⟩ : ∃ M : Nat, 1 + ra = M := ⟨_, rfl⟩
  obtain ⟨N, hN⟩ : ∃ N : Nat, 1 + rb = N := ⟨_, rfl⟩
  have hwra : IntKind.i64.wrap (ra : Int) = (ra : Int) := by rw [IntKind.wrap_i64]; omega
  have hwrb : IntKind.i64.wrap (rb : Int) = (rb : Int) := by rw [IntKind.wrap_i64]; omega
  have hM1 : IntKind.i64.wrap (1 + (ra : Int)) = (M : Int) := by rw [IntKind.wrap_i64]; omega
  have hN1 : IntKind.i64.wrap (1 + (rb : Int)) = (N : Int) := by rw [IntKind.wrap_i64]; omega
  have hMN : 1 ≤ M ∧ M ≤ 4 ∧ 1 ≤ N ∧ N ≤ 20 := by omega
  have hc : ckE (M : Int) (N : Int) 16 = 0 := by unfold ckE; rw [if_neg (by omega)]; rfl
  have D1 := DkS.new hA
  have hNd := new_any A m d w
  obtain ⟨w1, hw1⟩ : ∃ w1, w.alloc (.cells #[.slice A m d, .int .i64 0] 58) = w1 := ⟨_, rfl⟩
  obtain ⟨gd, hgd⟩ : ∃ gd, w.heap.size = gd := ⟨_, rfl⟩
  rw [hw1] at hNd D1
  rw [hgd] at hNd D1
  have hTd := table_dk D1.dk
  clear hM hN hra4 hrb20
  go_enter Try.func6, Try.ntmps6
  go_wp2_with fail
  refine hNd.mono ?_
  rintro e w2 ⟨rfl, hw2⟩
  subst hw2
  clear hNd
  go_wp2_with fail
  refine hTd.mono ?_
  rintro e w3 ⟨kt, ct, T, rfl, hT3, hkt, hD3, hg3⟩
  have D3 := (D1.deck hD3 hg3).1
  have hNp := HP.new (k := 16) D3.tidy (by omega) hT3 (M : Int) (N : Int) (by unfold J64; omega) (by unfold J64; omega) ⟨s0, s1⟩
  clear hTd D1 hD3 hg3 hw1 hA hkt
  go_wp2_with fail
  refine hNp.mono ?_
  rintro e w4 (⟨_, g, rfl, col4, p4, t4⟩ | ⟨h0, _⟩)
  rotate_left
  · exact absurd hc h0
  have D4 := D3.step t4 (by unfold Rng; omega) (rng0 (by omega))
  rw [Int.toNat_natCast, Int.toNat_natCast] at p4
  have T4 : DkSk PK w gd A m d g T sd col4 (newK M N) w4 := ⟨D4, p4⟩
  have O4 : OnlyK (ixH T sd) N (newK M N) [] := OnlyK.new hMN.1 hMN.2.2.1
  clear hNp D3 t4 D4 p4 hc hgd
  go_wp2
  go_loopw [14, 15] (fun kv iv wr => ∃ (i : Nat) (col : Col) (s : KSt) (h ps : List (ByteArray × Int)), i ≤ p ∧ i ≤ 50 ∧ iv = .int .i64 (i : Int) ∧ DkSk PK w gd A m d g T sd col s wr ∧ OnlyK (ixH T sd) N s h ∧ (∀ k, freqE h k = freqE ps k) ∧ s.sum ≤ 65536 * (i : Int) ∧ ps.length = i ∧ OwnKc kT col wr 2 kv (ps.map Prod.fst) ∧ HistB ps L) (fun _ iv _ => p - (intOf iv).toNat)
  case atStart => exact ⟨0, col4, newK M N, [], [], Nat.zero_le _, Nat.zero_le _, rfl, T4, O4, fun _ => rfl, by simp [newK], rfl, OwnKc.nil kT _ _ _, HistB.nil⟩
  case round =>
    clear T4 O4
    obtain ⟨i, col, q0, h, ps, hip, hi60, rfl, TT, O, hfr, hsum, hpl, K, H⟩ := hrel
    have hkl : (ps.map Prod.fst).length = i := by rw [List.length_map, hpl]
    obtain ⟨Ak, ck, rfl, RK, hKf⟩ := K.own.form hkl
    by_cases hend : i < p ∧ i < 50
    · as_aux_lemma =>
        have hpi : (i : Int) < (p : Int) := by omega
        have h8i : (i : Int) < 50 := by omega
        obtain ⟨bB, oB, x, rfl, hx, hx0, hx1, cS⟩ := (hB.below TT.ds.since.below).at_ hend.1
        have hcell : ∀ W, Below w.heap.size w W → W.cell? ⟨bB, oB + i, none⟩ = some (.int .u16 x) := fun W hb => by
          obtain ⟨b, o, x', e1, e2, _, _, e5⟩ := (hB.below hb).at_ hend.1
          injection e1 with e1; injection e1 with e1 e1'; subst e1 e1'
          rw [hx] at e2; injection e2 with e2; subst e2; exact e5
        have hux : IntKind.u64.wrap x = x := IntWalk.u64_in _ ⟨by omega, by omega⟩
        have hu1 : IntKind.u64.wrap (1 + x) = 1 + x := IntWalk.u64_in _ ⟨by omega, by omega⟩
        have hfit : fitsB q0.sum (1 + x) = true := fits_yes (by omega)
        have hSh := short_dk TT.ds.dk
        obtain ⟨ks, hks⟩ : ∃ ks, ps.map Prod.fst = ks := ⟨_, rfl⟩
        rw [hks] at K RK hkl
        have HK := Lib.hid (And.intro TT K)
        have HO := Lib.hid (And.intro O (And.intro hfr (And.intro hsum (And.intro H (And.intro hpl (And.intro hks (And.intro hx hfit)))))))
        clear TT O hfr H K RK hKf hx cS hpl hks hfit hB
        go_wp2_with fail
        refine hSh.mono ?_
        rintro e w5 ⟨s, hs, rfl, hD, hg⟩
        have T5 := (HK.out.1.deck HP hD hg).1
        have K5 := HK.out.2.keep (HK.out.1.ds.deck hD hg).2 (by omega)
        have b6 : Below w5.heap.size w5 (w5.alloc (.cells #[.string s] 9)) := (Below.refl _ _).alloc (Nat.le_refl _) _
        have T6 := T5.below HP b6
        have K6 := K5.keep (P := fun _ => False) (StepC.below T5.tidy b6) (fun h => h)
        have R6 : RdG kT (w5.alloc (.cells #[.string s] 9)) (some ⟨w5.heap.size, 0, none⟩) 1 1 [s] := RdG.one2 kT s rfl rfl rfl
        have O6 := K6.own
        have hby : ks.length + 1 ≤ 1000000000 := by omega
        obtain ⟨i1, hi1⟩ : ∃ i1, i + 1 = i1 := ⟨_, rfl⟩
        have hl7 : (ks ++ [s]).length = i1 := by simp [hkl, hi1]
        have hii : (i : Int) < (i1 : Int) := by omega
        have hi0 : 0 < i1 := by omega
        have hPack := Lib.hid (show ∀ (v7 : Value) (w7 : World), OwnK kT w7 v7 (ks ++ [s]) → (w5.alloc (.cells #[.string s] 9)).grownBy w7 (Value.slice Ak i ck).ownBlock → (v7.ownBlock = (Value.slice Ak i ck).ownBlock ∨ v7.ownBlock = some (w5.alloc (.cells #[.string s] 9)).heap.size) →
            ∃ (g7 c7 : Nat) (col7 : Col), v7 = .slice (some ⟨g7, 0, none⟩) i1 c7 ∧ DkSk PK w gd A m d g T sd col7 q0 w7 ∧ OwnKc kT col7 w7 2 (.slice (some ⟨g7, 0, none⟩) i1 c7) (ks ++ [s]) ∧ w7.cell? ⟨g7, i, none⟩ = some (.string s) ∧ i1 ≤ c7 ∧ c7 ≤ 9223372036854775807 from fun v7 w7 O7 G7 hat7 => by
          have s7 := StepC.app (P := fun c => c = 2) T6.tidy G7 K6.col rfl hat7 O7.lt
          have T7 := T6.row HP s7
          have K7 : OwnKc kT (dye col v7.ownBlock 2) w7 2 v7 (ks ++ [s]) := OwnKc.mk' kT O7
          obtain ⟨A7, c7, rfl, R7, _⟩ := O7.form hl7
          obtain ⟨g7, rfl, _⟩ := O7.head hi0
          have hat : (ks ++ [s])[i]? = some s := by rw [List.getElem?_append_right (by omega), hkl, Nat.sub_self]; rfl
          have hc := O7.cell (i := 0) (u := .string s) hat rfl
          exact ⟨g7, c7, _, rfl, T7, K7, by simpa [kT] using hc, R7.cap, R7.max⟩)
        clear hSh hD hg T5 K5 b6 T6 K6 HK
        go_wp2_with (at_builtin; refine wpList_appK kT rfl (.tmp 55) (.tmp 58) rfl _ ks rfl _ 1 1 [s] rfl O6 R6 hby ?_; intro v7 w7 O7 G7 hat7; obtain ⟨g7, c7, col7, rfl, T7, K7, c7s, hcp7, hmx7⟩ := hPack.out _ _ O7 G7 hat7; have c7w := hcell w7 T7.ds.since.below; have hb7 := T7.ds.since.below; have HT7 := Lib.hid (And.intro T7 K7); clear O6 R6 G7 hat7 T7 K7 O7 hPack)
        have hg7 : ¬ Rng 16 (col7 g7) := by rw [HT7.out.2.col.of]; unfold Rng; omega
        have bd := bdM w7
        have hbd := below_then hb7 bd
        have Td := HT7.out.1.below HP bd
        have hAd := HP.add Td.pt Td.tidy s (1 + x) (by omega) ⟨by omega, by omega⟩
        obtain ⟨o1, o2, o3⟩ := HO.out.1.add (fun k i => ixH_lt hMN.2.2.1 k i) (k := s) (w := 1 + x) (by omega) (by omega) HO.out.2.2.2.2.2.2.2
        rw [o1] at hAd
        have HTd := Lib.hid Td
        have cdS : w7.drew.cell? ⟨g7, i, none⟩ = some (.string s) := c7s
        have cdW : w7.drew.cell? ⟨bB, oB + i, none⟩ = some (.int .u16 x) := c7w
        have HO2 := Lib.hid (And.intro o2 o3)
        clear Td o1 o2 o3
        go_wp2_with fail
        go_region_held3 (fun W => W.cell? ⟨g7, i, none⟩ = some (.string s) ∧ W.cell? ⟨bB, oB + i, none⟩ = some (.int .u16 x)) (first | exact ⟨cdS, cdW⟩ | exact ⟨c9S, c9W⟩) ((go_at_call 14; refine hAd.mono ?_; rintro e w9 ⟨rfl, col9, p9, s9⟩; have T9 : DkSk PK w gd A m d g T sd col9 (q0.add (ixH T sd) s (1 + x)).2 w9 := ⟨HTd.out.ds.step s9 (by unfold Rng; omega) (rng0 (by omega)), p9⟩; have K9 := (HT7.out.2.keep (P := fun _ => False) (StepC.below HT7.out.1.tidy bd) (fun h => h)).keep s9 (by unfold Rng; omega); have c9W := hcell w9 T9.ds.since.below; have c9S : w9.cell? ⟨g7, i, none⟩ = some (.string s) := s9.cell (a := ⟨g7, i, none⟩) cdS hg7; clear p9 s9))
        all_goals
          have HF := Lib.hid (show ∀ k, freqE ((s, 1 + x) :: h) k = freqE (ps ++ [(s, 1 + x)]) k from fun k => by
            rw [freq_cons, freq_app, HO.out.2.1 k]
            show _ = _ + (0 + _)
            omega)
          have HH := Lib.hid (HO.out.2.2.2.1.snoc (s := s) (by rw [HO.out.2.2.2.2.1]; exact HO.out.2.2.2.2.2.2.1) ⟨hx0, hx1⟩ hs)
          have HK9 := Lib.hid (show OwnKc kT col9 w9 2 (.slice (some ⟨g7, 0, none⟩) i1 c7) ((ps ++ [(s, 1 + x)]).map Prod.fst) by rw [List.map_append, HO.out.2.2.2.2.2.1]; exact K9)
          have HL := Lib.hid (show (ps ++ [(s, 1 + x)]).length = i1 by rw [List.length_append, HO.out.2.2.2.2.1]; exact hi1)
          clear hAd HTd HT7 cdS cdW c9S c9W K9 bd hbd hg7
          go_wp2
          go_roundw
          case rel => exact ⟨i1, col9, _, _, _, by omega, by omega, by rw [← hi1]; go_num, T9, HO2.out.1, HF.out, by rw [HO2.out.2]; have := HO.out.2.2.1; omega, HL.out, HK9.out, HH.out⟩
          case measure => (simp [intOf] <;> omega)
    · have hcs : ¬ (i : Int) < (p : Int) ∨ ((i : Int) < (p : Int) ∧ ¬ (i : Int) < 50) := by omega
      have hbn := Lib.hid (fun k => O.est k)
      generalize wr = wA at *
      have b6 : Below wA.heap.size wA (wA.alloc (.cells #[.string ⟨#[110, 111, 110, 101]⟩] 9)) := (Below.refl _ _).alloc (Nat.le_refl _) _
      have T6 := TT.below HP b6
      have K6 := K.keep (P := fun _ => False) (StepC.below TT.tidy b6) (fun h => h)
      have R6 : RdG kT (wA.alloc (.cells #[.string ⟨#[110, 111, 110, 101]⟩] 9)) (some ⟨wA.heap.size, 0, none⟩) 1 1 [⟨#[110, 111, 110, 101]⟩] := RdG.one2 kT ⟨#[110, 111, 110, 101]⟩ rfl rfl rfl
      have O6 := K6.own
      obtain ⟨ks, hks⟩ : ∃ ks, ps.map Prod.fst = ks := ⟨_, rfl⟩
      rw [hks] at K K6 RK hkl O6
      have hby : ks.length + 1 ≤ 1000000000 := by omega
      obtain ⟨i1, hi1⟩ : ∃ i1, i + 1 = i1 := ⟨_, rfl⟩
      have hl7 : (ks ++ [(⟨#[110, 111, 110, 101]⟩ : ByteArray)]).length = i1 := by simp [hkl, hi1]
      have hSz := Lib.hid (show ∀ key ∈ ks ++ [(⟨#[110, 111, 110, 101]⟩ : ByteArray)], key.size ≤ 281474976710656 from fun key hk => by
        rcases List.mem_append.1 hk with hk | hk
        · rw [← hks] at hk
          obtain ⟨a, ha, rfl⟩ := List.mem_map.1 hk
          have := H.key a ha; omega
        · rw [List.mem_singleton.1 hk]; decide)
      have hPack := Lib.hid (show ∀ (v7 : Value) (w7 : World), OwnK kT w7 v7 (ks ++ [⟨#[110, 111, 110, 101]⟩]) → (wA.alloc (.cells #[.string ⟨#[110, 111, 110, 101]⟩] 9)).grownBy w7 (Value.slice Ak i ck).ownBlock → (v7.ownBlock = (Value.slice Ak i ck).ownBlock ∨ v7.ownBlock = some (wA.alloc (.cells #[.string ⟨#[110, 111, 110, 101]⟩] 9)).heap.size) →
          ∃ (A7 : Option Addr) (c7 : Nat) (col7 : Col), v7 = .slice A7 i1 c7 ∧ DkSk PK w gd A m d g T sd col7 q0 w7 ∧ RdG kT w7 A7 i1 c7 (ks ++ [⟨#[110, 111, 110, 101]⟩]) from fun v7 w7 O7 G7 hat7 => by
        have s7 := StepC.app (P := fun c => c = 2) T6.tidy G7 K6.col rfl hat7 O7.lt
        have T7 := T6.row HP s7
        obtain ⟨A7, c7, rfl, R7, _⟩ := O7.form hl7
        exact ⟨A7, c7, _, rfl, T7, R7⟩)
      have hOk := Lib.hid (And.intro hfr (And.intro hpl (And.intro H hks)))
      have hii : (i : Int) < (i1 : Int) := by omega
      have hi1' : i < i1 ∧ i1 ≤ 61 := by omega
      have hcpk := RK.cap
      have hmxk := RK.max
      clear TT O hfr hsum hpl K H hKf hend hks RK b6 T6 K6 hl7
      rcases hcs with hpi | ⟨hpi, h6i⟩
      all_goals
        go_wp2_with (at_builtin; refine wpList_appKo kT rfl (.tmp 73) (.tmp 74) rfl ks rfl _ 1 1 [⟨#[110, 111, 110, 101]⟩] rfl O6 R6 hby ?_; intro v7 w7 O7 RK7 G7 hat7; obtain ⟨A7, c7, col7, rfl, T7, R7⟩ := hPack.out _ _ O7 G7 hat7; have hcp7 := R7.cap; have hmx7 := R7.max; clear O6 R6 G7 hat7 O7 hPack)
        have hBd := Lib.hid (show ∀ (W : World) (k : ByteArray), k.size ≤ 281474976710656 → Below w7.heap.size w7 W → Calls Try.prog 15 #[.pointer (some ⟨g, 0, none⟩), .string k] W fun e w' => e = .returned (.int .u64 (estK (ixH T sd) q0.rows k)) ∧ Below W.heap.size W w' from fun W k hk hb => HP.est (T7.below HP hb).pt (T7.below HP hb).tidy k hk)
        have hTo := Lib.hid (show ∀ W, Below w7.heap.size w7 W → Calls Try.prog 16 #[.pointer (some ⟨g, 0, none⟩)] W fun e w' => e = .returned (.int .u64 q0.sum) ∧ Below W.heap.size W w' from fun W hb => HP.total (T7.below HP hb).pt (T7.below HP hb).tidy)
        have hAw := Lib.hid (show ∀ W, Below w7.heap.size w7 W → Calls Try.prog 9 #[] W fun e w' => e = .returned (.bool true) ∧ Below w.heap.size w w' from fun W hb => (kawake_any HP W).mono fun e w' h => ⟨h.1, ((T7.below HP hb).ds.since.belowL h.2).below⟩)
        have hTb := Lib.hid T7.ds.since.below
        clear T7
        go_wp2
        go_loopw [77] (fun qv wx => ∃ q : Nat, q ≤ i1 ∧ qv = .int .i64 (q : Int) ∧ Below w7.heap.size w7 wx) (fun qv _ => i1 - (intOf qv).toNat)
        case atStart => exact ⟨0, Nat.zero_le _, rfl, Below.refl _ _⟩
        case round =>
          obtain ⟨q, hq, rfl, hb⟩ := hrel
          by_cases hqi : q < i1
          · have hqI : (q : Int) < (i1 : Int) := by omega
            obtain ⟨bk, ok, key, rfl, hkey, _, _, ck0⟩ := (R7.below hb).at_ hqi
            have d0 : wr.cell? ⟨bk, ok + q, none⟩ = some (.string key) := by have := ck0 0 (.string key) rfl; simpa [kT] using this
            have hszk : key.size ≤ 281474976710656 := hSz.out key (List.mem_of_getElem? hkey)
            clear ck0 hkey
            go_wp2
            go_loopw [18, 83] (fun fv jv wx => ∃ (j : Nat) (y : Int), j ≤ i ∧ fv = .int .u64 y ∧ y = freqE (ps.take j) key ∧ jv = .int .i64 (j : Int) ∧ wx = wr) (fun _ jv _ => i - (intOf jv).toNat)
            case atStart => exact ⟨0, 0, Nat.zero_le _, rfl, by simp [freqE], rfl, rfl⟩
            case round =>
              obtain ⟨j, y, hj, rfl, hy, rfl, hwx⟩ := hrel
              subst hwx
              by_cases hji : j < i
              · have hjI : (j : Int) < (i : Int) := by omega
                have hjP : (j : Int) < (p : Int) := by omega
                obtain ⟨bk', ok', key2, rfl, hkey2, _, _, ck0⟩ := (RK7.below hb).at_ hji
                have d1 : wr.cell? ⟨bk', ok' + j, none⟩ = some (.string key2) := by have := ck0 0 (.string key2) rfl; simpa [kT] using this
                rw [← hOk.out.2.2.2, List.getElem?_map] at hkey2
                obtain ⟨a, hps⟩ : ∃ a, ps[j]? = some a := by
                  cases hps : ps[j]? with
                  | none => rw [hps] at hkey2; cases hkey2
                  | some a => exact ⟨a, rfl⟩
                rw [hps] at hkey2
                injection hkey2 with hkey2
                obtain ⟨z, hz, ha2, hz0, hz1⟩ := hOk.out.2.2.1.of j a hps
                have hBw := hB.below (below_then hTb.out hb)
                obtain ⟨bB, oB, z', rfl, hz', _, _, cW⟩ := hBw.at_ (j := j) (by omega)
                rw [hz] at hz'; injection hz' with hz'; subst hz'
                have hux : IntKind.u64.wrap z = z := IntWalk.u64_in _ ⟨by omega, by omega⟩
                have hu1 : IntKind.u64.wrap (1 + z) = 1 + z := IntWalk.u64_in _ ⟨by omega, by omega⟩
                obtain ⟨f0, f1⟩ := freq_most key (l := ps.take j) fun a ha => hOk.out.2.2.1.bd a (List.mem_of_mem_take ha)
                have hlj : (ps.take j).length ≤ 80 := by rw [List.length_take]; omega
                have hnx := freq_next hps key
                rw [hkey2, ha2, ← hy] at hnx
                rw [← hy] at f0 f1
                have hwy : IntKind.u64.wrap (y + (1 + z)) = y + (1 + z) := IntWalk.u64_in _ ⟨by omega, by omega⟩
                by_cases hkk : key2 = key
                · have hbk : (key2.toList == key.toList) = true := by rw [str_eq_en]; exact decide_eq_true hkk
                  rw [if_pos hkk] at hnx
                  have HN := Lib.hid hnx
                  clear hnx hy hkk hps hkey2 hz hBw ck0 ha2 hb f0 f1
                  go_wp2
                  go_roundw
                  case rel => exact ⟨j + 1, _, by omega, rfl, HN.out.symm, by go_num, (by first | rfl | trivial)⟩
                  case measure => (simp [intOf] <;> omega)
                · have hbk : (key2.toList == key.toList) = false := by rw [str_eq_en]; exact decide_eq_false hkk
                  rw [if_neg hkk] at hnx
                  have HN := Lib.hid (show y = freqE (ps.take (j + 1)) key by rw [hnx]; omega)
                  clear hnx hy hkk hps hkey2 hz hBw ck0 ha2 hb f0 f1
                  go_wp2
                  go_roundw
                  case rel => exact ⟨j + 1, y, by omega, rfl, HN.out, by go_num, (by first | rfl | trivial)⟩
                  case measure => (simp [intOf] <;> omega)
              · have hjI : ¬ (j : Int) < (i : Int) := by omega
                have hyf : freqE h key = y := by
                  rw [hOk.out.1 key, hy, List.take_of_length_le (by rw [hOk.out.2.1]; omega)]
                obtain ⟨q1, q2⟩ := hbn.out key
                rw [hyf] at q1
                have hC := hBd.out _ key hszk hb
                generalize estK (ixH T sd) q0.rows key = gv at *
                have hno1 : ¬ gv < y := by omega
                have hno2 : ¬ q0.sum < gv := by omega
                have HB := Lib.hid hb
                clear hyf hy q1 q2 hb
                go_wp2_with fail
                refine hC.mono ?_
                rintro e w5 ⟨rfl, b5⟩
                have HB5 := Lib.hid (below_then HB.out b5)
                have hT5 := hTo.out w5 HB5.out
                clear hC b5
                go_wp2_with fail
                refine hT5.mono ?_
                rintro e w6 ⟨rfl, b6⟩
                have HB6 := Lib.hid (below_then HB5.out b6)
                clear hT5 b6
                go_wp2
                go_roundw
                case rel => exact ⟨q + 1, by omega, by go_num, HB6.out⟩
                case measure => (simp [intOf] <;> omega)
          · have hqI : ¬ (q : Int) < (i1 : Int) := by omega
            have hA2 := hAw.out _ hb
            clear RK7 R7 hOk hbn hBd hcpk hmxk hb
            go_wp2_with fail
            refine hA2.mono ?_
            rintro e w11 ⟨rfl, hbf⟩
            clear hA2
            go_wp2
            go_ret
            exact ⟨rfl, hbf⟩
end Go.Proofs.Ytcckfdhajbbieaa
