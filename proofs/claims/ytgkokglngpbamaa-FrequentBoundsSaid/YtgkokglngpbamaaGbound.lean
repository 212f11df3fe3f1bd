/- The statements about package frequent: FrequentBounds. Conditions: the program's tables keep their contracts (ProgF). -/
import Derived.Test.YtgkokglngpbamaaGdeck
import Derived.Deep.CutBlock
import Derived.Test.YtgkokglngpbamaaZ19
import Derived.Test.YtgkokglngpbamaaZ02
namespace Go.Proofs.Ytgkokglngpbamaa
open Go.ChangeShapes Go.WideShapes Go.ChangeAt Go.RowKit
set_option linter.unusedVariables false
set_option linter.unusedSimpArgs false
set_option maxRecDepth 100000

theorem freq_app (k : ByteArray) : ∀ l l' : List (ByteArray × Int), freqE (l ++ l') k = freqE l k + freqE l' k
  | [], l' => by show freqE l' k = 0 + freqE l' k; omega
  | a :: l, l' => by
    show freqE (l ++ l') k + _ = (freqE l k + _) + freqE l' k
    rw [freq_app k l l']; omega
theorem freq_next {l : List (ByteArray × Int)} {j : Nat} {a : ByteArray × Int} (h : l[j]? = some a) (k : ByteArray) : freqE (l.take (j + 1)) k = freqE (l.take j) k + if a.1 = k then a.2 else 0 := by
  rw [List.take_add_one, h, freq_app]
  show _ + (0 + _) = _
  omega
theorem freq_most (k : ByteArray) : ∀ {l : List (ByteArray × Int)}, (∀ a ∈ l, 0 ≤ a.2 ∧ a.2 ≤ 65536) → 0 ≤ freqE l k ∧ freqE l k ≤ 65536 * l.length
  | [], _ => by simp [freqE]
  | a :: l, h => by
    obtain ⟨h1, h2⟩ := h a (by simp)
    obtain ⟨h3, h4⟩ := freq_most k (l := l) fun b hb => h b (by simp [hb])
    have e : 65536 * ((a :: l).length : Int) = 65536 * l.length + 65536 := by simp [Int.mul_add]
    rw [freq_cons, e]
    split <;> omega
/-- Keys and weights that were added; L: what the weights came from. -/
structure HistF (ps : List (ByteArray × Int)) (L : List Int) : Prop where
  of : ∀ (j : Nat) (a : ByteArray × Int), ps[j]? = some a → ∃ z, L[j]? = some z ∧ a.2 = 1 + z ∧ 0 ≤ z ∧ z ≤ 65535
  key : ∀ a ∈ ps, 2 ≤ a.1.size ∧ a.1.size ≤ 3
section
variable {PT : RepF} {w W W' : World} {gd m d g : Nat} {A : Option Addr} {col col' : Col} {t : TSt} {ps : List (ByteArray × Int)} {L : List Int} {s : ByteArray} {z : Int}
theorem HistF.nil : HistF [] L := ⟨fun j a h => by simp at h, fun a h => by cases h⟩
theorem HistF.snoc (H : HistF ps L) (hz : L[ps.length]? = some z) (h0 : 0 ≤ z ∧ z ≤ 65535) (hs : 2 ≤ s.size ∧ s.size ≤ 3) : HistF (ps ++ [(s, 1 + z)]) L := by
  refine ⟨fun j a h => ?_, fun a h => ?_⟩
  · rcases Nat.lt_trichotomy j ps.length with h1 | h1 | h1
    · rw [List.getElem?_append_left h1] at h
      exact H.of j a h
    · subst h1
      rw [List.getElem?_append_right (Nat.le_refl _), Nat.sub_self] at h
      injection h with h; subst h
      exact ⟨z, hz, rfl, h0.1, h0.2⟩
    · rw [List.getElem?_eq_none (by simp; omega)] at h; cases h
  · rcases List.mem_append.1 h with h | h
    · exact H.key a h
    · rw [List.mem_singleton.1 h]; exact hs
theorem HistF.bd (H : HistF ps L) : ∀ a ∈ ps, 0 ≤ a.2 ∧ a.2 ≤ 65536 := fun a ha => by
  obtain ⟨j, hj⟩ := List.mem_iff_getElem?.1 ha
  obtain ⟨z, _, h1, h2, h3⟩ := H.of j a hj
  omega
theorem DkF.row (HP : ProgF PT) (h : DkF PT w gd A m d g col t W) (s : StepC (fun c => c = 2) col W col' W') : DkF PT w gd A m d g col' t W' :=
  ⟨h.ds.step s (by omega) (by omega), HP.keep h.pt s (fun c hc e => by have := hc.1; omega) (by omega)⟩
/-- What a key's entry says. -/
theorem OnlyF.tells {t : TSt} {h : List (ByteArray × Int)} (O : OnlyF t h) (k : ByteArray) : (∃ x : En, t.getF k = (x, true) ∧ x.2.1 ≤ freqE h k ∧ freqE h k ≤ x.2.1 + x.2.2 ∧ 0 ≤ x.2.1 + x.2.2 ∧ x.2.1 + x.2.2 ≤ 9223372036854775808) ∨ (∃ x : En, t.getF k = (x, false) ∧ freqE h k ≤ t.base) := by
  cases hp : placeE t.l k with
  | none => exact .inr ⟨zeroE, by unfold TSt.getF; rw [hp], O.out k fun e he => placeE_none hp e he⟩
  | some i =>
    obtain ⟨e, hi, he, _⟩ := placeE_some hp
    have hm := List.mem_of_getElem? hi
    obtain ⟨h1, h2⟩ := O.in_ e hm
    obtain ⟨b1, _, b3⟩ := O.good.bd hm
    have b4 := O.good.base0
    have b5 := O.good.top
    rw [he] at h1 h2
    exact .inl ⟨t.tellF e, by unfold TSt.getF; rw [hp]; show (t.tellF ((t.l[i]?).getD zeroE), true) = _; rw [hi]; rfl, h1, h2, by show 0 ≤ e.2.1 + t.base; omega, by show e.2.1 + t.base ≤ _; omega⟩
theorem sumO_tell {t : TSt} : ∀ l : List En, sumO (l.map t.tellF) = sumO l
  | [] => rfl
  | e :: l => by show e.2.1 + sumO (l.map t.tellF) = e.2.1 + sumO l; rw [sumO_tell l]
/-- The entries as they are told, in order. -/
theorem tells_in {t : TSt} (G : GoodF t) {e : En} (he : e ∈ sortE (t.l.map t.tellF)) : 0 < e.2.1 ∧ e.2.2 = t.base ∧ e.2.1 + t.base ≤ t.sum := by
  have h := (sortE_perm _).mem_iff.1 he
  obtain ⟨x, hx, rfl⟩ := List.mem_map.1 h
  obtain ⟨b1, _, b3⟩ := G.bd hx
  exact ⟨b1, rfl, b3⟩
end
set_option maxHeartbeats 32000000 in
theorem frequentBounds_walk {PT : RepF} (HP : ProgF PT) (n : Int) (A : Option Addr) (m d : Nat) (B : Option Addr) (p c : Nat) (w : World) (n0 : 0 ≤ n) (n1 : n ≤ 255) (hA : RdI w A m d) (hB : Arg16 w B p c) :
    Calls Try.prog 6 #[.int .u8 n, .slice A m d, .slice B p c] w (Yes w) := by
  obtain ⟨L, hB⟩ := hB
  have hcapB := hB.cap
  have hmaxB := hB.max
  have hlL := hB.len
  have hS0 := Since.start w
  obtain ⟨a, rfl⟩ : ∃ a : Nat, n = (a : Int) := ⟨n.toNat, by omega⟩
  have hw0 : IntKind.i64.wrap (a : Int) = (a : Int) := by rw [IntKind.wrap_i64]; omega
  obtain ⟨r, hr⟩ : ∃ r : Nat, (a : Int).tmod 8 = (r : Int) := ⟨((a : Int).tmod 8).toNat, by rw [Int.tmod_eq_emod_of_nonneg (by omega)]; omega⟩
  have hr8 : r < 8 := by rw [Int.tmod_eq_emod_of_nonneg (by omega)] at hr; omega
  have hr2 : (a : Int) % 8 = (r : Int) := by rw [Int.tmod_eq_emod_of_nonneg (by omega)] at hr; exact hr
  obtain ⟨N, hN⟩ : ∃ N : Nat, 1 + r = N := ⟨_, rfl⟩
  have hw1 : IntKind.i64.wrap (1 + (r : Int)) = (N : Int) := by rw [IntKind.wrap_i64]; omega
  have hwr : IntKind.i64.wrap (r : Int) = (r : Int) := by rw [IntKind.wrap_i64]; omega
  have hN8 : 1 ≤ N ∧ N ≤ 8 := by omega
  have hnew := HP.new (k := 16) hS0.tidy (by omega) (N : Int) (by unfold J64; omega)
  have hE : svE (N : Int) = 0 := if_neg (by omega)
  clear hN hr8
  go_enter Try.func6, Try.ntmps6
  go_wp2_with fail
  refine hnew.mono ?_
  rintro e w2 (⟨_, g, rfl, col2, p2, s2⟩ | ⟨h0, _⟩)
  rotate_left
  · rw [hE] at h0; cases h0
  rw [Int.toNat_natCast] at p2
  have A2 : AtF PT w col2 w2 16 g (newT N) := ⟨hS0.step s2 (rng0 (by omega)), p2⟩
  clear hS0 s2 p2 hnew hw0 hr hr2 hw1 hwr hE
  have hNd := new_any A m d w2
  go_wp2_with fail
  refine hNd.mono ?_
  rintro e w3 ⟨rfl, rfl⟩
  have T3 := DkF.start HP A2 hA
  have O3 : OnlyF (newT N) [] := OnlyF.new (by omega)
  generalize w2.heap.size = gd at *
  generalize w2.alloc (.cells #[.slice A m d, .int .i64 0] 77) = w3 at *
  clear hNd A2 hA
  go_wp2
  go_loopw [11, 12] (fun kv iv wr => ∃ (i : Nat) (col : Col) (t : TSt) (h ps : List (ByteArray × Int)), i ≤ p ∧ i ≤ 80 ∧ iv = .int .i64 (i : Int) ∧ DkF PT w gd A m d g col t wr ∧ OnlyF t h ∧ (∀ k, freqE h k = freqE ps k) ∧ (t.sum ≤ 65536 * (i : Int) ∧ t.m = N) ∧ ps.length = i ∧ OwnKc kT col wr 2 kv (ps.map Prod.fst) ∧ HistF ps L) (fun _ iv _ => p - (intOf iv).toNat)
  case atStart => exact ⟨0, _, newT N, [], [], Nat.zero_le _, Nat.zero_le _, rfl, T3, O3, fun _ => rfl, ⟨by simp [newT], rfl⟩, rfl, OwnKc.nil kT _ _ _, HistF.nil⟩
  case round =>
    clear T3 O3
    obtain ⟨i, col, t, h, ps, hip, hi80, rfl, T, O, hfr, ⟨hsum, htm⟩, hpl, K, H⟩ := hrel
    have hkl : (ps.map Prod.fst).length = i := by rw [List.length_map, hpl]
    obtain ⟨Ak, ck, rfl, RK, hKf⟩ := K.own.form hkl
    by_cases hend : i < p ∧ i < 80
    · as_aux_lemma =>
        have HTM := Lib.hid htm
        clear htm
        have hpi : (i : Int) < (p : Int) := by omega
        have h8i : (i : Int) < 80 := by omega
        obtain ⟨bB, oB, x, rfl, hx, hx0, hx1, cS⟩ := (hB.below T.ds.since.below).at_ hend.1
        have hcell : ∀ W, Below w.heap.size w W → W.cell? ⟨bB, oB + i, none⟩ = some (.int .u16 x) := fun W hb => by
          obtain ⟨b, o, x', e1, e2, _, _, e5⟩ := (hB.below hb).at_ hend.1
          injection e1 with e1; injection e1 with e1 e1'; subst e1 e1'
          rw [hx] at e2; injection e2 with e2; subst e2; exact e5
        have hux : IntKind.u64.wrap x = x := IntWalk.u64_in _ ⟨by omega, by omega⟩
        have hu1 : IntKind.u64.wrap (1 + x) = 1 + x := IntWalk.u64_in _ ⟨by omega, by omega⟩
        have hfit : fitsB t.sum (1 + x) = true := fits_yes (by omega)
        have hSh := short_dk T.ds.dk
        obtain ⟨ks, hks⟩ : ∃ ks, ps.map Prod.fst = ks := ⟨_, rfl⟩
        rw [hks] at K RK hkl
        have HK := Lib.hid (And.intro T K)
        have HO := Lib.hid (And.intro O (And.intro hfr (And.intro hsum (And.intro H (And.intro hpl (And.intro hks (And.intro hx hfit)))))))
        clear T O hfr H K RK hKf hx cS hpl hks hfit hB
        go_wp2_with fail
        refine hSh.mono ?_
        rintro e w5 ⟨s, hs, rfl, hD, hg⟩
        have T5 := HK.out.1.deck HP hD hg
        have K5 := HK.out.2.keep (HK.out.1.ds.deck hD hg).2 (by omega)
        have b6 : Below w5.heap.size w5 (w5.alloc (.cells #[.string s] 9)) := (Below.refl _ _).alloc (Nat.le_refl _) _
        have T6 := T5.below HP b6
        have K6 := K5.keep (P := fun _ => False) (StepC.below T5.tidy b6) (fun h => h)
        have R6 : RdG kT (w5.alloc (.cells #[.string s] 9)) (some ⟨w5.heap.size, 0, none⟩) 1 1 [s] := RdG.one2 kT s rfl rfl rfl
        have O6 := K6.own
        have hby : ks.length + 1 ≤ 1000000000 := by omega
        obtain ⟨i1, hi1⟩ : ∃ i1, i + 1 = i1 := ⟨_, rfl⟩
        have hl7 : (ks ++ [s]).length = i1 := by simp [hkl, hi1]
        have hii : (i : Int) < (i1 : Int) := by omega
        have hi0 : 0 < i1 := by omega
        have hPack := Lib.hid (show ∀ (v7 : Value) (w7 : World), OwnK kT w7 v7 (ks ++ [s]) → (w5.alloc (.cells #[.string s] 9)).grownBy w7 (Value.slice Ak i ck).ownBlock → (v7.ownBlock = (Value.slice Ak i ck).ownBlock ∨ v7.ownBlock = some (w5.alloc (.cells #[.string s] 9)).heap.size) →
            ∃ (g7 c7 : Nat) (col7 : Col), v7 = .slice (some ⟨g7, 0, none⟩) i1 c7 ∧ DkF PT w gd A m d g col7 t w7 ∧ OwnKc kT col7 w7 2 (.slice (some ⟨g7, 0, none⟩) i1 c7) (ks ++ [s]) ∧ w7.cell? ⟨g7, i, none⟩ = some (.string s) ∧ i1 ≤ c7 ∧ c7 ≤ 9223372036854775807 from fun v7 w7 O7 G7 hat7 => by
          have s7 := StepC.app (P := fun c => c = 2) T6.tidy G7 K6.col rfl hat7 O7.lt
          have T7 := T6.row HP s7
          have K7 : OwnKc kT (dye col v7.ownBlock 2) w7 2 v7 (ks ++ [s]) := OwnKc.mk' kT O7
          obtain ⟨A7, c7, rfl, R7, _⟩ := O7.form hl7
          obtain ⟨g7, rfl, _⟩ := O7.head hi0
          have hat : (ks ++ [s])[i]? = some s := by rw [List.getElem?_append_right (by omega), hkl, Nat.sub_self]; rfl
          have hc := O7.cell (i := 0) (u := .string s) hat rfl
          exact ⟨g7, c7, _, rfl, T7, K7, by simpa [kT] using hc, R7.cap, R7.max⟩)
        clear hSh hD hg T5 K5 b6 T6 K6 HK
        go_wp2_with (at_builtin; refine wpList_appK kT rfl (.tmp 50) (.tmp 53) rfl _ ks rfl _ 1 1 [s] rfl O6 R6 hby ?_; intro v7 w7 O7 G7 hat7; obtain ⟨g7, c7, col7, rfl, T7, K7, c7s, hcp7, hmx7⟩ := hPack.out _ _ O7 G7 hat7; have c7w := hcell w7 T7.ds.since.below; have hb7 := T7.ds.since.below; have HT7 := Lib.hid (And.intro T7 K7); clear O6 R6 G7 hat7 T7 K7 O7 hPack)
        have hg7 : ¬ Rng 16 (col7 g7) := by rw [HT7.out.2.col.of]; unfold Rng; omega
        have bd := bdM w7
        have hbd := below_then hb7 bd
        have Td := HT7.out.1.below HP bd
        have hAd := HP.add Td.pt Td.tidy s (1 + x) (short_sz' hs) ⟨by omega, by omega⟩
        obtain ⟨o1, o2, o3, o4⟩ := HO.out.1.addF (k := s) (w := 1 + x) (by omega) (by omega) HO.out.2.2.2.2.2.2.2
        rw [o1] at hAd
        have HTd := Lib.hid Td
        have cdS : w7.drew.cell? ⟨g7, i, none⟩ = some (.string s) := c7s
        have cdW : w7.drew.cell? ⟨bB, oB + i, none⟩ = some (.int .u16 x) := c7w
        have HO2 := Lib.hid (And.intro o2 (And.intro o3 (o4.trans HTM.out)))
        clear Td o1 o2 o3 o4
        go_wp2_with fail
        go_region_held3 (fun W => W.cell? ⟨g7, i, none⟩ = some (.string s) ∧ W.cell? ⟨bB, oB + i, none⟩ = some (.int .u16 x)) (first | exact ⟨cdS, cdW⟩ | exact ⟨c9S, c9W⟩) ((go_at_call 13; refine hAd.mono ?_; rintro e w9 ⟨rfl, col9, p9, s9⟩; have T9 : DkF PT w gd A m d g col9 (t.addF s (1 + x)).2 w9 := ⟨HTd.out.ds.step s9 (by unfold Rng; omega) (rng0 (by omega)), p9⟩; have K9 := (HT7.out.2.keep (P := fun _ => False) (StepC.below HT7.out.1.tidy bd) (fun h => h)).keep s9 (by unfold Rng; omega); have c9W := hcell w9 T9.ds.since.below; have c9S : w9.cell? ⟨g7, i, none⟩ = some (.string s) := s9.cell (a := ⟨g7, i, none⟩) cdS hg7; clear p9 s9))
        all_goals
          have HF := Lib.hid (show ∀ k, freqE ((s, 1 + x) :: h) k = freqE (ps ++ [(s, 1 + x)]) k from fun k => by
            rw [freq_cons, freq_app, HO.out.2.1 k]
            show _ = _ + (0 + _)
            omega)
          have HH := Lib.hid (HO.out.2.2.2.1.snoc (s := s) (by rw [HO.out.2.2.2.2.1]; exact HO.out.2.2.2.2.2.2.1) ⟨hx0, hx1⟩ hs)
          have HK9 := Lib.hid (show OwnKc kT col9 w9 2 (.slice (some ⟨g7, 0, none⟩) i1 c7) ((ps ++ [(s, 1 + x)]).map Prod.fst) by rw [List.map_append, HO.out.2.2.2.2.2.1]; exact K9)
          have HL := Lib.hid (show (ps ++ [(s, 1 + x)]).length = i1 by rw [List.length_append, HO.out.2.2.2.2.1]; exact hi1)
          clear hAd HTd HT7 cdS cdW c9S c9W K9 bd hbd hg7
          go_wp2
          go_roundw
          case rel => exact ⟨i1, col9, _, _, _, by omega, by omega, by rw [← hi1]; go_num, T9, HO2.out.1, HF.out, ⟨by rw [HO2.out.2.1]; have := HO.out.2.2.1; omega, HO2.out.2.2⟩, HL.out, HK9.out, HH.out⟩
          case measure => (simp [intOf] <;> omega)
    · have hcs : ¬ (i : Int) < (p : Int) ∨ ((i : Int) < (p : Int) ∧ ¬ (i : Int) < 80) := by omega
      have hct : ∀ e ∈ sortE (t.l.map t.tellF), 0 ≤ e.2.1 := fun e he => Int.le_of_lt (tells_in O.good he).1
      obtain ⟨N1, hN1⟩ : ∃ N1 : Nat, N + 1 = N1 := ⟨_, rfl⟩
      obtain ⟨Cb, hCb⟩ : ∃ Cb, (N1 : Int) * t.base = Cb := ⟨_, rfl⟩
      have hall : Cb + sumO (sortE (t.l.map t.tellF)) = t.sum := by
        rw [sumO_perm (sortE_perm _), sumO_tell, ← hCb, show (N1 : Int) = (t.m : Int) + 1 by rw [htm]; omega]
        exact O.all
      have hpart := fun j => sumO_part hct j
      have hCb0 : 0 ≤ Cb := by rw [← hCb]; exact Int.mul_nonneg (by omega) O.good.base0
      have hwN0 : IntKind.i64.wrap ((N : Int) + 1) = (N1 : Int) := by rw [IntKind.wrap_i64]; omega
      have hwN : IntKind.u64.wrap (N1 : Int) = (N1 : Int) := IntWalk.u64_in _ ⟨by omega, by omega⟩
      have htop := O.good.top
      have hen : ∀ e ∈ sortE (t.l.map t.tellF), 0 ≤ e.2.1 ∧ 0 ≤ e.2.2 := fun e he => by
        obtain ⟨b1, b2, _⟩ := tells_in O.good he
        exact ⟨by omega, by rw [b2]; exact O.good.base0⟩
      have htells := Lib.hid (fun k => O.tells k)
      obtain ⟨l', hl2⟩ : ∃ l', sortE (t.l.map t.tellF) = l' := ⟨_, rfl⟩
      obtain ⟨k1, hk1⟩ : ∃ k, t.base = k := ⟨_, rfl⟩
      obtain ⟨k2, hk2⟩ : ∃ k, t.sum = k := ⟨_, rfl⟩
      rw [hl2] at hct hall hpart hen
      rw [hk2] at hall htop
      rw [hk1] at hCb
      have hsO : 0 ≤ sumO l' := by have := (hpart 0).1; have h2 := (hpart 0).2; omega
      have hCw : IntKind.u64.wrap ((N1 : Int) * k1) = Cb := by rw [hCb]; exact IntWalk.u64_in _ ⟨hCb0, by omega⟩
      have hall' := Lib.hid hall
      generalize wr = wA at *
      have hGt := Lib.hid (show ∀ (W : World) (k : ByteArray), Sz k → Below wA.heap.size wA W → Calls Try.prog 10 #[.pointer (some ⟨g, 0, none⟩), .string k] W fun e w' => e = .returned (.tuple #[.agg (VE (t.getF k).1), .bool (t.getF k).2]) ∧ Below W.heap.size W w' from fun W k hk hb => HP.get (T.below HP hb).pt (T.below HP hb).tidy k hk)
      have hUn := Lib.hid (show ∀ W, Below wA.heap.size wA W → Calls Try.prog 14 #[.pointer (some ⟨g, 0, none⟩)] W fun e w' => e = .returned (.int .u64 k1) ∧ Below W.heap.size W w' from fun W hb => (HP.untr (T.below HP hb).pt (T.below HP hb).tidy).mono fun e w' h => ⟨by rw [h.1, hk1], h.2⟩)
      have hTo := Lib.hid (show ∀ W, Below wA.heap.size wA W → Calls Try.prog 15 #[.pointer (some ⟨g, 0, none⟩)] W fun e w' => e = .returned (.int .u64 k2) ∧ Below W.heap.size W w' from fun W hb => (HP.total (T.below HP hb).pt (T.below HP hb).tidy).mono fun e w' h => ⟨by rw [h.1, hk2], h.2⟩)
      have hEn := Lib.hid (show ∀ W, Below wA.heap.size wA W → Calls Try.prog 17 #[.pointer (some ⟨g, 0, none⟩)] W (RowOut kEn W l') from fun W hb => by
        have h := HP.entries (T.below HP hb).pt (T.below HP hb).tidy
        rw [hl2] at h
        exact h)
      have hAw := Lib.hid (show ∀ W, Below wA.heap.size wA W → Calls Try.prog 18 #[] W fun e w' => e = .returned (.bool true) ∧ Below w.heap.size w w' from fun W hb => (fawake_any HP W).mono fun e w' h => ⟨h.1, ((T.below HP hb).ds.since.belowL h.2).below⟩)
      have hTb := Lib.hid T.ds.since.below
      have hOk := Lib.hid (And.intro hfr (And.intro hpl H))
      have hk1' := Lib.hid hk1
      have hcpk := RK.cap
      have hmxk := RK.max
      clear T O hfr hsum htm hpl K H hKf hend hl2 hk1 hk2 hct hCb hN1 hall
      rcases hcs with hpi | ⟨hpi, h8i⟩
      all_goals
        go_wp2
        go_loopw [70] (fun qv wx => ∃ q : Nat, q ≤ i ∧ qv = .int .i64 (q : Int) ∧ Below wA.heap.size wA wx) (fun qv _ => i - (intOf qv).toNat)
        case atStart => exact ⟨0, Nat.zero_le _, rfl, Below.refl _ _⟩
        case round =>
          obtain ⟨q, hq, rfl, hb⟩ := hrel
          by_cases hqi : q < i
          · have hqI : (q : Int) < (i : Int) := by omega
            obtain ⟨bk, ok, key, rfl, hkey, _, _, ck0⟩ := (RK.below hb).at_ hqi
            have d0 : wr.cell? ⟨bk, ok + q, none⟩ = some (.string key) := by have := ck0 0 (.string key) rfl; simpa [kT] using this
            have hszk : Sz key := by
              rw [List.getElem?_map] at hkey
              cases hps : ps[q]? with
              | none => rw [hps] at hkey; cases hkey
              | some a =>
                rw [hps] at hkey; injection hkey with hkey; subst hkey
                exact short_sz' (hOk.out.2.2.key a (List.mem_of_getElem? hps))
            clear ck0 hkey
            go_wp2
            go_loopw [15, 76] (fun fv jv wx => ∃ (j : Nat) (y : Int), j ≤ i ∧ fv = .int .u64 y ∧ y = freqE (ps.take j) key ∧ jv = .int .i64 (j : Int) ∧ wx = wr) (fun _ jv _ => i - (intOf jv).toNat)
            case atStart => exact ⟨0, 0, Nat.zero_le _, rfl, by simp [freqE], rfl, rfl⟩
            case round =>
              obtain ⟨j, y, hj, rfl, hy, rfl, hwx⟩ := hrel
              subst hwx
              by_cases hji : j < i
              · have hjI : (j : Int) < (i : Int) := by omega
                have hjP : (j : Int) < (p : Int) := by omega
                obtain ⟨bk', ok', key2, ek, hkey2, _, _, ck0⟩ := (RK.below hb).at_ hji
                injection ek with ek; injection ek with ek1 ek2; subst ek1 ek2
                have d1 : wr.cell? ⟨bk, ok + j, none⟩ = some (.string key2) := by have := ck0 0 (.string key2) rfl; simpa [kT] using this
                rw [List.getElem?_map] at hkey2
                obtain ⟨a, hps⟩ : ∃ a, ps[j]? = some a := by
                  cases hps : ps[j]? with
                  | none => rw [hps] at hkey2; cases hkey2
                  | some a => exact ⟨a, rfl⟩
                rw [hps] at hkey2
                injection hkey2 with hkey2
                obtain ⟨z, hz, ha2, hz0, hz1⟩ := hOk.out.2.2.of j a hps
                have hBw := hB.below (below_then hTb.out hb)
                obtain ⟨bB, oB, z', rfl, hz', _, _, cW⟩ := hBw.at_ (j := j) (by omega)
                rw [hz] at hz'; injection hz' with hz'; subst hz'
                have hux : IntKind.u64.wrap z = z := IntWalk.u64_in _ ⟨by omega, by omega⟩
                have hu1 : IntKind.u64.wrap (1 + z) = 1 + z := IntWalk.u64_in _ ⟨by omega, by omega⟩
                obtain ⟨f0, f1⟩ := freq_most key (l := ps.take j) fun a ha => hOk.out.2.2.bd a (List.mem_of_mem_take ha)
                have hlj : (ps.take j).length ≤ 80 := by rw [List.length_take]; omega
                have hnx := freq_next hps key
                rw [hkey2, ha2, ← hy] at hnx
                rw [← hy] at f0 f1
                have hwy : IntKind.u64.wrap (y + (1 + z)) = y + (1 + z) := IntWalk.u64_in _ ⟨by omega, by omega⟩
                by_cases hkk : key2 = key
                · have hbk : (key2.toList == key.toList) = true := by rw [str_eq_en]; exact decide_eq_true hkk
                  rw [if_pos hkk] at hnx
                  have HN := Lib.hid hnx
                  clear hnx hy hkk hps hkey2 hz hBw ck0 ha2 hb f0 f1
                  go_wp2
                  go_roundw
                  case rel => exact ⟨j + 1, _, by omega, rfl, HN.out.symm, by go_num, (by first | rfl | trivial)⟩
                  case measure => (simp [intOf] <;> omega)
                · have hbk : (key2.toList == key.toList) = false := by rw [str_eq_en]; exact decide_eq_false hkk
                  rw [if_neg hkk] at hnx
                  have HN := Lib.hid (show y = freqE (ps.take (j + 1)) key by rw [hnx]; omega)
                  clear hnx hy hkk hps hkey2 hz hBw ck0 ha2 hb f0 f1
                  go_wp2
                  go_roundw
                  case rel => exact ⟨j + 1, y, by omega, rfl, HN.out, by go_num, (by first | rfl | trivial)⟩
                  case measure => (simp [intOf] <;> omega)
              · have hjI : ¬ (j : Int) < (i : Int) := by omega
                have hyf : ∀ {hh : List (ByteArray × Int)}, (∀ k, freqE hh k = freqE ps k) → freqE hh key = y := fun hh => by
                  rw [hh key, hy, List.take_of_length_le (by rw [hOk.out.2.1]; omega)]
                have hcase := htells.out key
                rw [hyf hOk.out.1, hk1'.out] at hcase
                have hC := hGt.out _ key hszk hb
                clear hyf hy
                rcases hcase with ⟨x, hgx, q1, q2, q3, q4⟩ | ⟨x, hgx, q1⟩
                · rw [hgx] at hC
                  have hno1 : ¬ x.2.1 > y := by omega
                  have hno2 : ¬ y > x.2.1 + x.2.2 := by omega
                  have hwx2 : IntKind.u64.wrap (x.2.1 + x.2.2) = x.2.1 + x.2.2 := IntWalk.u64_in _ ⟨by omega, by omega⟩
                  clear hgx
                  go_wp2_with fail
                  refine hC.mono ?_
                  rintro e w5 ⟨rfl, b5⟩
                  have b6 := (below_then hb b5).alloc (below_then hb b5).size (.cells (VE x) 32)
                  have v1 : (w5.alloc (.cells (VE x) 32)).cell? ⟨w5.heap.size, 1, none⟩ = some (.int .u64 x.2.1) := (World.cell?_alloc_at (w := w5) _ _ _ _ rfl).trans rfl
                  have v2 : (w5.alloc (.cells (VE x) 32)).cell? ⟨w5.heap.size, 2, none⟩ = some (.int .u64 x.2.2) := (World.cell?_alloc_at (w := w5) _ _ _ _ rfl).trans rfl
                  clear hC b5 hb
                  go_wp2
                  go_roundw
                  case rel => exact ⟨q + 1, by omega, by go_num, b6⟩
                  case measure => (simp [intOf] <;> omega)
                · rw [hgx] at hC
                  have hno1 : ¬ y > k1 := by omega
                  clear hgx
                  go_wp2_with fail
                  refine hC.mono ?_
                  rintro e w5 ⟨rfl, b5⟩
                  have b6 := (below_then hb b5).alloc (below_then hb b5).size (.cells (VE x) 32)
                  have hU := hUn.out _ b6
                  clear hC b5 hb
                  go_wp2_with fail
                  refine hU.mono ?_
                  rintro e w7 ⟨rfl, b7⟩
                  have b8 := below_then b6 b7
                  clear hU b6 b7
                  go_wp2
                  go_roundw
                  case rel => exact ⟨q + 1, by omega, by go_num, b8⟩
                  case measure => (simp [intOf] <;> omega)
          · have hqI : ¬ (q : Int) < (i : Int) := by omega
            have hUw := hUn.out _ hb
            clear RK hOk htells hGt hUn hk1' hcpk hmxk
            go_wp2_with fail
            refine hUw.mono ?_
            rintro e w7 ⟨rfl, b7⟩
            have hb := below_then hb b7
            have hEw := hEn.out _ hb
            clear hUw b7
            go_wp2_with fail
            refine hEw.mono ?_
            rintro e w8 ⟨A8, n8, c8, hl8, rfl, R8, _, b8⟩
            have d8 := below_then hb b8
            have hcap8 := R8.cap
            have hmax8 := R8.max
            clear hEw b8 hb hEn
            go_wp2
            go_loopw [20, 135] (fun sv jv wx => ∃ (j : Nat) (y : Int), j ≤ n8 ∧ sv = .int .u64 y ∧ y = Cb + sumO (l'.take j) ∧ jv = .int .i64 (j : Int) ∧ Below w8.heap.size w8 wx) (fun _ jv _ => n8 - (intOf jv).toNat)
            case atStart => exact ⟨0, Cb, Nat.zero_le _, rfl, by simp [sumO], rfl, Below.refl _ _⟩
            case round =>
              obtain ⟨j, y, hj, rfl, hy, rfl, hb⟩ := hrel
              by_cases hjl : j < n8
              · obtain ⟨b, o, e, rfl, he, z0, z1, z2⟩ := (R8.below hb).atEn hjl
                have hjI : (j : Int) < (n8 : Int) := by omega
                obtain ⟨q1, q2⟩ := hen e (List.mem_of_getElem? he)
                have hnx := sumO_next he
                have hp0 := hpart j
                have hp1 := hpart (j + 1)
                obtain ⟨y2, hy2⟩ : ∃ y2, y + e.2.1 = y2 := ⟨_, rfl⟩
                have HY := Lib.hid (show y2 = Cb + sumO (l'.take (j + 1)) by rw [hnx, ← hy2, hy]; omega)
                have hall := hall'.out
                have hy3 : 0 ≤ y2 ∧ y2 ≤ 9223372036854775808 := by rw [HY.out]; omega
                have hwy : IntKind.u64.wrap (y + e.2.1) = y2 := by rw [hy2]; exact IntWalk.u64_in _ ⟨by omega, by omega⟩
                have b1 := hb.alloc hb.size (.cells (VE e) 32)
                have v1 : (wr.alloc (.cells (VE e) 32)).cell? ⟨wr.heap.size, 1, none⟩ = some (.int .u64 e.2.1) := (World.cell?_alloc_at (w := wr) _ _ _ _ rfl).trans rfl
                have v2 : (wr.alloc (.cells (VE e) 32)).cell? ⟨wr.heap.size, 2, none⟩ = some (.int .u64 e.2.2) := (World.cell?_alloc_at (w := wr) _ _ _ _ rfl).trans rfl
                clear hnx hp0 hp1 hy2 hy he hb hall
                go_wp2
                go_roundw
                case rel => exact ⟨j + 1, y2, by omega, rfl, HY.out, by go_num, b1⟩
                case measure => (simp [intOf] <;> omega)
              · have hjI : ¬ (j : Int) < (n8 : Int) := by omega
                have hye : y = k2 := by
                  rw [hy, List.take_of_length_le (by omega)]; exact hall'.out
                have d9 := below_then d8 hb
                subst hye
                have hee : (y == y) = true := by simp
                clear hy hb hpart R8 d8
                go_wp2_with fail
                refine (hTo.out _ d9).mono ?_
                rintro e w10 ⟨rfl, b10⟩
                have d10 := below_then d9 b10
                have hA2 := hAw.out _ d10
                clear d9 b10 hTo hAw
                go_wp2_with fail
                refine hA2.mono ?_
                rintro e w11 ⟨rfl, hbf⟩
                clear hA2 d10
                go_wp2
                go_ret
                exact ⟨rfl, hbf⟩
end Go.Proofs.Ytgkokglngpbamaa
