/- The statements about package frequent: FrequentSum. Conditions: the program's tables keep their contracts (ProgF). -/
import Derived.Test.YtgkokglngpbamaaGbound
import Derived.Deep.CutBlock
namespace Go.Proofs.Ytgkokglngpbamaa
open Go.ChangeShapes Go.WideShapes Go.ChangeAt Go.RowKit
set_option linter.unusedVariables false
set_option linter.unusedSimpArgs false
set_option maxRecDepth 100000

theorem addF_m (t : TSt) (k : ByteArray) (w : Int) : (t.addF k w).2.m = t.m := by
  unfold TSt.addF
  split
  · rfl
  split
  · rfl
  split
  · rfl
  split
  · rfl
  split <;> rfl
theorem take_mF (t : TSt) (k : ByteArray) : (t.take k).m = t.m := by
  unfold TSt.take
  split <;> rfl
theorem swapF_m (t : TSt) (k : ByteArray) (e : En) : (t.swapF k e).2.m = t.m := by
  unfold TSt.swapF
  split
  · rfl
  split
  · rfl
  split
  · rfl
  split <;> rfl
/-- Untracked leaves the world alone. -/
structure ProgFq (PT : RepF) : Prop where
  untr : ∀ {col : Col} {k g : Nat} {w : World} {t : TSt}, PT col k w g t → Tidy col w → Calls Try.prog 14 #[.pointer (some ⟨g, 0, none⟩)] w fun e w' => e = .returned (.int .u64 t.base) ∧ w' = w
/-- What the statement reckons. -/
theorem GoodF.reck {t : TSt} (G : GoodF t) {N N1 LQ : Nat} (hm : t.m = N) (hN : N + 1 = N1) (hL : t.l.length = LQ) :
    LQ ≤ N ∧ N ≤ 64 ∧ 0 ≤ t.base ∧ t.base ≤ t.sum ∧ t.sum ≤ 9223372036854775808 ∧ 0 ≤ (N1 : Int) * t.base ∧ (N1 : Int) * t.base + sumO (sortE (t.l.map t.tellF)) ≤ t.sum ∧ (∀ e ∈ sortE (t.l.map t.tellF), 0 < e.2.1 ∧ e.2.2 = t.base ∧ e.2.1 + t.base ≤ t.sum) := by
  have h1 := G.len
  have h2 := G.m1
  have h3 := G.most
  have h4 := G.sums
  have e1 : ((N1 : Nat) : Int) = (t.m : Int) + 1 := by rw [hm]; omega
  rw [sumO_perm (sortE_perm _), sumO_tell, e1]
  exact ⟨by omega, by omega, G.base0, h4.2.1, G.top, h4.2.2.2.1, h3, fun e he => tells_in G he⟩
set_option maxHeartbeats 32000000 in
theorem frequentSum_walk {PT : RepF} (HP : ProgF PT) (HQ : ProgFq PT) (n : Int) (A : Option Addr) (m d : Nat) (B : Option Addr) (p c : Nat) (w : World) (n0 : 0 ≤ n) (n1 : n ≤ 255) (hA : RdI w A m d) (hB : RdI w B p c) :
    Calls Try.prog 5 #[.int .u8 n, .slice A m d, .slice B p c] w (Yes w) := by
  have hcapB := hB.1
  have hmaxB := hB.2.1
  simp only [maxLen] at hmaxB
  have hS0 := Since.start w
  obtain ⟨a, rfl⟩ : ∃ a : Nat, n = (a : Int) := ⟨n.toNat, by omega⟩
  have hw0 : IntKind.i64.wrap (a : Int) = (a : Int) := by rw [IntKind.wrap_i64]; omega
  obtain ⟨r, hr⟩ : ∃ r : Nat, (a : Int).tmod 6 = (r : Int) := ⟨((a : Int).tmod 6).toNat, by rw [Int.tmod_eq_emod_of_nonneg (by omega)]; omega⟩
  have hr8 : r < 6 := by rw [Int.tmod_eq_emod_of_nonneg (by omega)] at hr; omega
  have hr2 : (a : Int) % 6 = (r : Int) := by rw [Int.tmod_eq_emod_of_nonneg (by omega)] at hr; exact hr
  obtain ⟨N, hN⟩ : ∃ N : Nat, 1 + r = N := ⟨_, rfl⟩
  have hw1 : IntKind.i64.wrap (1 + (r : Int)) = (N : Int) := by rw [IntKind.wrap_i64]; omega
  have hwr : IntKind.i64.wrap (r : Int) = (r : Int) := by rw [IntKind.wrap_i64]; omega
  have hN8 : 1 ≤ N ∧ N ≤ 6 := by omega
  have hnew := HP.new (k := 16) hS0.tidy (by omega) (N : Int) (by unfold J64; omega)
  have hE : svE (N : Int) = 0 := if_neg (by omega)
  clear hN hr8
  go_enter Try.func5, Try.ntmps5
  go_wp2_with fail
  refine hnew.mono ?_
  rintro e w2 (⟨_, g, rfl, col2, p2, s2⟩ | ⟨h0, _⟩)
  rotate_left
  · rw [hE] at h0; cases h0
  rw [Int.toNat_natCast] at p2
  have A2 : AtF PT w col2 w2 16 g (newT N) := ⟨hS0.step s2 (rng0 (by omega)), p2⟩
  clear hS0 s2 p2 hnew hw0 hr hr2 hw1 hwr hE
  have hNd := new_any A m d w2
  go_wp2_with fail
  refine hNd.mono ?_
  rintro e w3 ⟨rfl, rfl⟩
  have T3 := DkF.start HP A2 hA
  generalize w2.heap.size = gd at *
  generalize w2.alloc (.cells #[.slice A m d, .int .i64 0] 77) = w3 at *
  clear hNd A2 hA
  go_wp2
  go_loopw [11] (fun iv wr => ∃ (i : Nat) (col : Col) (t : TSt), i ≤ p ∧ i ≤ 80 ∧ iv = .int .i64 (i : Int) ∧ DkF PT w gd A m d g col t wr ∧ t.m = N) (fun iv _ => p - (intOf iv).toNat)
  case atStart => exact ⟨0, _, newT N, Nat.zero_le _, Nat.zero_le _, rfl, T3, rfl⟩
  case round =>
    clear T3
    obtain ⟨i, col, t, hip, hi80, rfl, T, htm⟩ := hrel
    by_cases hend : i < p ∧ i < 80
    · have hpi : (i : Int) < (p : Int) := by omega
      have h8i : (i : Int) < 80 := by omega
      obtain ⟨bB, oB, s, rfl, cS, hs0, hs1⟩ := (hB.below T.ds.since.below).2.2 i hend.1
      obtain ⟨V, hVm, hV⟩ := mask_any s 7 (by omega)
      have hV' : bits .and .i64 s 7 = (V : Int) := hV
      obtain ⟨X, hXm, hX⟩ := mask_any (s / 8) 31 (by omega)
      have hX' : bits .and .i64 (s / 8) 31 = (X : Int) := hX
      obtain ⟨Y, hY⟩ : ∃ Y : Nat, 1 + X = Y := ⟨_, rfl⟩
      have hwY : IntKind.i64.wrap (1 + (X : Int)) = (Y : Int) := by rw [IntKind.wrap_i64]; omega
      have huY : IntKind.u64.wrap (Y : Int) = (Y : Int) := IntWalk.u64_in _ ⟨by omega, by omega⟩
      have hWY := Lib.hid (show W64 (Y : Int) from ⟨by omega, by omega⟩)
      clear hV hX hY hB
      have hTT := Lib.hid (And.intro T htm)
      have hSh := short_dk T.ds.dk
      clear T htm
      have hV4 : V = 0 ∨ V = 1 ∨ V = 2 ∨ 3 ≤ V := by omega
      go_upto_block 2 with fail
      go_cut [12] from 34 to 118 (fun vs wx => ∃ (col' : Col) (t' : TSt) (W : World), W = wx ∧ DkF PT w gd A m d g col' t' W ∧ t'.m = N)
      case first =>
        rcases hV4 with rfl | rfl | rfl | hV3
        · as_aux_lemma =>
            go_wp2_with fail
            refine hSh.mono ?_
            rintro e W2 ⟨k, hk, rfl, h2, g2⟩
            have T2 := hTT.out.1.deck HP h2 g2
            have hC := HP.take T2.pt T2.tidy k (short_sz' hk)
            clear hSh h2 g2
            go_wp2_with fail
            refine hC.mono ?_
            rintro e w5 ⟨rfl, hd⟩
            obtain ⟨col5, T5⟩ := T2.did hd
            have hm := (take_mF t k).trans hTT.out.2
            clear hC hd T2
            go_wp2_with fail
            go_meet
            exact ⟨_, _, _, rfl, T5, hm⟩
        iterate 2
          · as_aux_lemma =>
              have hE2 := entry_dk hTT.out.1.ds.dk
              clear hSh
              go_wp2_with fail
              refine hE2.mono ?_
              rintro e W3 ⟨y, hy1, hy2, hy3, rfl, h3, g3⟩
              have T3 := hTT.out.1.deck HP h3 g3
              clear hE2 h3 g3
              have s4 := StepC.new T3.tidy (.cells (VE y) 32) 2 (fun c => c = 2)
              have T4 := T3.row HP s4
              have X4 : BoxC (dye col (some W3.heap.size) 2) (W3.alloc (.cells (VE y) 32)) W3.heap.size 2 (VE y) 32 := ⟨heap_alloc_new W3 _, dye_of⟩
              obtain ⟨k, o, sl⟩ := y
              obtain ⟨mn, hmn⟩ : ∃ mn, min sl t.base = mn := ⟨_, rfl⟩
              have hGd := HP.good T3.pt
              have hb0 := hGd.base0
              have hbt := hGd.sums.2.1
              have htp := hGd.top
              have hy2' : 0 ≤ o ∧ o < 30 := hy2
              have hy3' : 0 ≤ sl ∧ sl < 10 := hy3
              have hmn2 : 0 ≤ mn ∧ mn < 10 := by omega
              have hkz : 2 ≤ k.size ∧ k.size ≤ 3 := hy1
              have hW64o : W64 o := ⟨by omega, by omega⟩
              have hW64m : W64 mn := ⟨by omega, by omega⟩
              obtain ⟨col4, hc4⟩ : ∃ cc, cc = dye col (some W3.heap.size) 2 := ⟨_, rfl⟩
              obtain ⟨W4, hW4⟩ : ∃ W, W = W3.alloc (.cells (VE (k, o, sl)) 32) := ⟨_, rfl⟩
              obtain ⟨G, hG⟩ : ∃ G, W3.heap.size = G := ⟨_, rfl⟩
              rw [← hc4, ← hW4] at T4 X4
              rw [hG] at X4
              have hUn := fun n => HQ.untr (T4.below HP (below_drewN (Below.refl _ _) n)).pt (T4.below HP (below_drewN (Below.refl _ _) n)).tidy
              obtain ⟨bs, hbs⟩ : ∃ z, t.base = z := ⟨_, rfl⟩
              simp only [hbs] at hUn hmn
              have c2x : W4.cell? ⟨G, 2, none⟩ = some (.int .u64 sl) := X4.cell 2 rfl
              have f2x := X4.free 2
              have hd4 : Below W4.heap.size W4 W4.drew := (Below.refl _ _).drew
              have HT4 := Lib.hid (And.intro (T4.below HP hd4) (X4.keep (P := fun _ => False) (StepC.below T4.tidy hd4) (fun h => h)))
              clear T3 T4 X4 s4 hc4 hbs hGd hb0 hbt htp hy1 hy2 hy3
              go_upto_region 17 with fail
              rw [← hW4]
              clear hW4 hG
              go_still_tail 6, (by kernel_rfl)
              still_call (hUn 1)
              repeat still_step
              refine wpStill_nil ?_
              change wpList _ _ _ _ _ (World.drew _)
              obtain ⟨T5, X5⟩ := HT4.out
              have s6 : StepC (fun c => c = 2) col4 W4.drew col4 ((W4.setCell ⟨G, 2, none⟩ (.int .u64 mn)).drew) := StepC.set (a := ⟨G, 2, none⟩) T5.tidy X5.col (.int .u64 mn)
              have T6 : DkF PT w gd A m d g col4 t ((W4.setCell ⟨G, 2, none⟩ (.int .u64 mn)).drew) := T5.row HP s6
              have X6 : BoxC col4 ((W4.setCell ⟨G, 2, none⟩ (.int .u64 mn)).drew) G 2 (VE (k, o, mn)) 32 := X5.put 2 (.int .u64 mn)
              obtain ⟨W6, hW6⟩ : ∃ W, W = (W4.setCell ⟨G, 2, none⟩ (.int .u64 mn)).drew := ⟨_, rfl⟩
              rw [← hW6] at s6 T6 X6
              have hd6 : Below W6.heap.size W6 W6.drew := (Below.refl _ _).drew
              have T6d := T6.below HP hd6
              have X6d := X6.keep (P := fun _ => False) (StepC.below T6.tidy hd6) (fun h => h)
              have hSh := short_dk T6d.ds.dk
              have i6 : W6.cell? ⟨G, 0, none⟩ = some (.string k) ∧ W6.cell? ⟨G, 1, none⟩ = some (.int .u64 o) ∧ W6.cell? ⟨G, 2, none⟩ = some (.int .u64 mn) := ⟨X6.cell 0 rfl, X6.cell 1 rfl, X6.cell 2 rfl⟩
              have i6d : W6.drew.cell? ⟨G, 0, none⟩ = some (.string k) ∧ W6.drew.cell? ⟨G, 1, none⟩ = some (.int .u64 o) ∧ W6.drew.cell? ⟨G, 2, none⟩ = some (.int .u64 mn) := ⟨X6d.cell 0 rfl, X6d.cell 1 rfl, X6d.cell 2 rfl⟩
              have hr16 : ¬ Rng 16 2 := by unfold Rng; omega
              have HT6 := Lib.hid (And.intro T6d X6d)
              clear T5 X5 s6 T6 X6 HT4 hd6 T6d X6d hd4 hUn
              go_wp2_with fail
              rw [← hW6]
              clear hW6 c2x f2x
              go_region_held3 (fun W => W.cell? ⟨G, 0, none⟩ = some (.string k) ∧ W.cell? ⟨G, 1, none⟩ = some (.int .u64 o) ∧ W.cell? ⟨G, 2, none⟩ = some (.int .u64 mn)) (first | exact i6d | exact i7 | exact i8) (first
                | (go_at_call 20; refine hSh.mono ?_; rintro e W7 ⟨q, hq, rfl, h7, g7⟩; have T7 := HT6.out.1.deck HP h7 g7; have X7 := HT6.out.2.keep (HT6.out.1.ds.deck h7 g7).2 (by omega); have i7 : W7.cell? ⟨G, 0, none⟩ = some (.string k) ∧ W7.cell? ⟨G, 1, none⟩ = some (.int .u64 o) ∧ W7.cell? ⟨G, 2, none⟩ = some (.int .u64 mn) := ⟨X7.cell 0 rfl, X7.cell 1 rfl, X7.cell 2 rfl⟩; have hC := HP.swap T7.pt T7.tidy q (k, o, mn) (short_sz' hq) (short_sz' hkz) hW64o hW64m)
                | (go_at_call 12; refine hC.mono ?_; rintro e W8 ⟨rfl, col8, p8, s8⟩; have T8 : DkF PT w gd A m d g col8 (t.swapF q (k, o, mn)).2 W8 := ⟨T7.ds.step s8 (by unfold Rng; omega) (rng0 (by omega)), p8⟩; have X8 := X7.keep s8 hr16; have i8 : W8.cell? ⟨G, 0, none⟩ = some (.string k) ∧ W8.cell? ⟨G, 1, none⟩ = some (.int .u64 o) ∧ W8.cell? ⟨G, 2, none⟩ = some (.int .u64 mn) := ⟨X8.cell 0 rfl, X8.cell 1 rfl, X8.cell 2 rfl⟩))
              all_goals
                have hm := (swapF_m t q (k, o, mn)).trans hTT.out.2
                clear hC T7 X7 X8 i6 i6d i7 i8 hSh HT6 s8 p8
                go_wp2_with fail
                go_meet
                exact ⟨_, _, _, rfl, T8, hm⟩
        · as_aux_lemma =>
            have e0 : ((V : Int) == 0) = false := beq_false_of_ne (by omega)
            have e1 : ((V : Int) == 1) = false := beq_false_of_ne (by omega)
            have e2 : ((V : Int) == 2) = false := beq_false_of_ne (by omega)
            go_wp2_with fail
            refine hSh.mono ?_
            rintro e W2 ⟨k, hk, rfl, h2, g2⟩
            have T2 := hTT.out.1.deck HP h2 g2
            have hC := HP.add T2.pt T2.tidy k (Y : Int) (short_sz' hk) hWY.out
            clear hSh h2 g2
            go_wp2_with fail
            refine hC.mono ?_
            rintro e w5 ⟨rfl, hd⟩
            obtain ⟨col5, T5⟩ := T2.did hd
            have hm := (addF_m t k (Y : Int)).trans hTT.out.2
            clear hC hd T2
            go_wp2_with fail
            go_meet
            exact ⟨_, _, _, rfl, T5, hm⟩
      case rest =>
        as_aux_lemma =>
          clear hTT hV4 hV' hVm cS hX' hXm hwY huY hWY hSh
          obtain ⟨col5, q, W5, hW5, T5, hqm⟩ := hcut
          subst hW5
          obtain ⟨LQ, hLQ⟩ : ∃ LQ, q.l.length = LQ := ⟨_, rfl⟩
          obtain ⟨N1, hN1⟩ : ∃ N1, N + 1 = N1 := ⟨_, rfl⟩
          obtain ⟨a1, a2, a3, a4, a5, a6, a7, a10⟩ := (HP.good T5.pt).reck hqm hN1 hLQ
          have hl' : (sortE (q.l.map q.tellF)).length = LQ := by rw [sortE_len, List.length_map, hLQ]
          obtain ⟨l', hl2⟩ : ∃ l', sortE (q.l.map q.tellF) = l' := ⟨_, rfl⟩
          rw [hl2] at a7 a10 hl'
          have hwN : IntKind.i64.wrap ((N : Int) + 1) = (N1 : Int) := by rw [IntKind.wrap_i64]; omega
          have huN : IntKind.u64.wrap (N1 : Int) = (N1 : Int) := IntWalk.u64_in _ ⟨by omega, by omega⟩
          obtain ⟨P, hP⟩ : ∃ P, (N1 : Int) * q.base = P := ⟨_, rfl⟩
          rw [hP] at a6 a7
          obtain ⟨k1, hk1⟩ : ∃ k, q.base = k := ⟨_, rfl⟩
          obtain ⟨k2, hk2⟩ : ∃ k, q.sum = k := ⟨_, rfl⟩
          rw [hk1] at hP a3 a4
          simp only [hk1] at a10
          rw [hk2] at a4 a5 a7
          simp only [hk2] at a10
          have hct : ∀ e ∈ l', 0 ≤ e.2.1 := fun e he => Int.le_of_lt (a10 e he).1
          have hs0' := sumO_nonneg hct
          have hwP : IntKind.u64.wrap ((N1 : Int) * k1) = P := by rw [hP]; exact IntWalk.u64_in _ ⟨by omega, by omega⟩
          have hLN : ¬ (LQ : Int) > (N : Int) := by omega
          have hpart := fun j => sumO_part hct j
          have hLn := Lib.hid (show ∀ W, Below W5.heap.size W5 W → Calls Try.prog 16 #[.pointer (some ⟨g, 0, none⟩)] W fun e w' => e = .returned (.int .i64 (LQ : Int)) ∧ Below W.heap.size W w' from fun W hb => (HP.len (T5.below HP hb).pt (T5.below HP hb).tidy).mono fun e w' h => ⟨by rw [h.1, hLQ], h.2⟩)
          have hUn := Lib.hid (show ∀ W, Below W5.heap.size W5 W → Calls Try.prog 14 #[.pointer (some ⟨g, 0, none⟩)] W fun e w' => e = .returned (.int .u64 k1) ∧ Below W.heap.size W w' from fun W hb => (HP.untr (T5.below HP hb).pt (T5.below HP hb).tidy).mono fun e w' h => ⟨by rw [h.1, hk1], h.2⟩)
          have hTo := Lib.hid (show ∀ W, Below W5.heap.size W5 W → Calls Try.prog 15 #[.pointer (some ⟨g, 0, none⟩)] W fun e w' => e = .returned (.int .u64 k2) ∧ Below W.heap.size W w' from fun W hb => (HP.total (T5.below HP hb).pt (T5.below HP hb).tidy).mono fun e w' h => ⟨by rw [h.1, hk2], h.2⟩)
          have hEn := Lib.hid (show ∀ W, Below W5.heap.size W5 W → Calls Try.prog 17 #[.pointer (some ⟨g, 0, none⟩)] W (RowOut kEn W l') from fun W hb => by
            have h := HP.entries (T5.below HP hb).pt (T5.below HP hb).tidy
            rw [hl2] at h
            exact h)
          have HT5 := Lib.hid (And.intro T5 hqm)
          clear T5 hqm hLQ hl2 hk1 hk2 hN1 hP hct
          go_wp2_with fail
          refine (hUn.out _ (Below.refl _ _)).mono ?_
          rintro e w7 ⟨rfl, d7⟩
          go_wp2_with fail
          refine (hEn.out _ d7).mono ?_
          rintro e w8 ⟨A8, n8, c8, hl8, rfl, R8, _, b8⟩
          obtain rfl : LQ = n8 := by rw [← hl', hl8]
          have d8 := below_then d7 b8
          have hcap8 := R8.cap
          have hmax8 := R8.max
          clear d7 b8 hEn hl8
          go_wp2
          go_loopw [14, 90] (fun sv jv wr => ∃ (j : Nat) (y : Int), j ≤ LQ ∧ sv = .int .u64 y ∧ y = P + sumO (l'.take j) ∧ jv = .int .i64 (j : Int) ∧ Below w8.heap.size w8 wr) (fun _ jv _ => LQ - (intOf jv).toNat)
          case atStart => exact ⟨0, P, Nat.zero_le _, rfl, by simp [sumO], rfl, Below.refl _ _⟩
          case round =>
            obtain ⟨j, y, hj, rfl, hy, rfl, hb⟩ := hrel
            by_cases hjl : j < LQ
            · obtain ⟨b, o, e, rfl, he, z0, z1, z2⟩ := (R8.below hb).atEn hjl
              have hjI : (j : Int) < (LQ : Int) := by omega
              obtain ⟨q1, q2, q3⟩ := a10 e (List.mem_of_getElem? he)
              have hnx := sumO_next he
              obtain ⟨ke, oe, se⟩ := e
              have q2' : se = k1 := q2
              subst q2'
              have q1' : 0 < oe := q1
              have q3' : oe + se ≤ k2 := q3
              have z1' : wr.cell? ⟨b, o + j * 3 + 1, none⟩ = some (.int .u64 oe) := z1
              have z2' : wr.cell? ⟨b, o + j * 3 + 2, none⟩ = some (.int .u64 se) := z2
              have z0' : wr.cell? ⟨b, o + j * 3, none⟩ = some (.string ke) := z0
              have hp1 := hpart (j + 1)
              obtain ⟨y2, hy2⟩ : ∃ y2, y + oe = y2 := ⟨_, rfl⟩
              have hnx' : sumO (l'.take (j + 1)) = sumO (l'.take j) + oe := hnx
              have HY := Lib.hid (show y2 = P + sumO (l'.take (j + 1)) by rw [hnx', ← hy2, hy]; omega)
              have hy3 : 0 ≤ y2 ∧ y2 ≤ 9223372036854775808 := by rw [HY.out]; omega
              have hwy : IntKind.u64.wrap (y + oe) = y2 := by rw [hy2]; exact IntWalk.u64_in _ ⟨by omega, by omega⟩
              have ho0 : (oe == 0) = false := beq_false_of_ne (by omega)
              have hse : (se == se) = true := by simp
              have b1 : Below w8.heap.size w8 (wr.alloc (.cells (VE (ke, oe, se)) 32)) := hb.alloc hb.size _
              have v1 : (wr.alloc (.cells (VE (ke, oe, se)) 32)).cell? ⟨wr.heap.size, 1, none⟩ = some (.int .u64 oe) := (World.cell?_alloc_at (w := wr) _ _ _ _ rfl).trans rfl
              have v2 : (wr.alloc (.cells (VE (ke, oe, se)) 32)).cell? ⟨wr.heap.size, 2, none⟩ = some (.int .u64 se) := (World.cell?_alloc_at (w := wr) _ _ _ _ rfl).trans rfl
              clear hnx hnx' hp1 hy2 hy he hb z0 z1 z2 q1 q2 q3
              go_wp2_with fail
              generalize hW1 : wr.alloc (.cells #[.string ke, .int .u64 oe, .int .u64 se] 32) = W1 at *
              generalize wr.heap.size = G at *
              clear hW1 z0' z1' z2'
              have d1 := below_then d8 b1
              go_region_held3 (fun W => W.cell? ⟨G, 1, none⟩ = some (.int .u64 oe) ∧ W.cell? ⟨G, 2, none⟩ = some (.int .u64 se) ∧ Below W1.heap.size W1 W) (first | exact ⟨(cellB v1 b9).1, (cellB v2 b9).1, b9⟩ | exact ⟨(cellB v1 (bdM _)).1, (cellB v2 (bdM _)).1, bdM _⟩) ((go_at_call 14; refine (hUn.out _ (below_then d1 (bdM _))).mono ?_; rintro e' w9 ⟨rfl, b9'⟩; have b9 := below_then (bdM W1) b9'))
              all_goals
                have u1 := (cellB v1 b9).1
                have u2 := (cellB v2 b9).1
                have b10 := below_then b1 b9
                clear v1 v2 b9 b1 b9'
                go_wp2
                go_roundw
                case rel => exact ⟨j + 1, y2, by omega, rfl, HY.out, by go_num, b10⟩
                case measure => (simp [intOf] <;> omega)
            · have hjI : ¬ (j : Int) < (LQ : Int) := by omega
              have hyk : ¬ y > k2 := by
                rw [hy, List.take_of_length_le (by omega)]; omega
              have d9 := below_then d8 hb
              clear hy hb hpart R8 d8
              go_wp2_with fail
              refine (hLn.out _ d9).mono ?_
              rintro e w10 ⟨rfl, b10⟩
              have d10 := below_then d9 b10
              clear d9 b10
              go_wp2_with fail
              refine (hTo.out _ d10).mono ?_
              rintro e w11 ⟨rfl, b11⟩
              have d11 := below_then d10 b11
              clear d10 b11
              have T14 := HT5.out.1.below HP d11
              clear hLn hTo hUn d11
              go_wp2
              go_roundw
              case rel => exact ⟨i + 1, _, _, by omega, by omega, by go_num, T14, HT5.out.2⟩
              case measure => (simp [intOf] <;> omega)
    · have hE := Lib.hid T.ds.since
      have hcs : ¬ (i : Int) < (p : Int) ∨ ((i : Int) < (p : Int) ∧ ¬ (i : Int) < 80) := by omega
      clear T hB hend
      rcases hcs with hpi | ⟨hpi, h6i⟩
      all_goals
        go_wp2_with fail
        refine (fawake_any HP _ ).mono ?_
        rintro e w9 ⟨rfl, b9⟩
        have hb := (hE.out.belowL b9).below
        clear hE b9
        go_wp2
        go_ret
        exact ⟨rfl, hb⟩
end Go.Proofs.Ytgkokglngpbamaa
