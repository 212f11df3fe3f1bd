/- The statements about package saving: SavingBase. Conditions: the program's tables keep their contracts (ProgT). -/
import Derived.Test.YtlfhkhnhcckajaaGreatDoorHdeck
import Derived.Deep.CutBlock
namespace Go.Proofs.YtlfhkhnhcckajaaGreatDoor
open Go.ChangeShapes Go.WideShapes Go.ChangeAt Go.RowKit
set_option linter.unusedVariables false
set_option linter.unusedSimpArgs false
set_option maxRecDepth 100000

theorem sumE_perm {l l' : List En} (h : l.Perm l') : sumE l = sumE l' := by
  induction h with
  | nil => rfl
  | cons x _ ih => show ctE x + sumE _ = ctE x + sumE _; rw [ih]
  | swap x y l => show ctE y + (ctE x + sumE l) = ctE x + (ctE y + sumE l); omega
  | trans _ _ h1 h2 => exact h1.trans h2
theorem sumE_next {l : List En} {j : Nat} {e : En} (h : l[j]? = some e) : sumE (l.take (j + 1)) = sumE (l.take j) + ctE e := by
  rw [List.take_add_one, h, sumE_app]
  show _ + (ctE e + 0) = _
  omega
theorem sumE_part {l : List En} (h : ∀ e ∈ l, 0 ≤ ctE e) (j : Nat) : 0 ≤ sumE (l.take j) ∧ sumE (l.take j) ≤ sumE l := by
  have h1 : sumE l = sumE (l.take j) + sumE (l.drop j) := by
    conv => lhs; rw [← List.take_append_drop j l]
    exact sumE_app _ _
  have h2 := sumE_nonneg (l := l.take j) fun e he => h e (List.mem_of_mem_take he)
  have h3 := sumE_nonneg (l := l.drop j) fun e he => h e (List.mem_of_mem_drop he)
  omega
theorem addS_m (t : TSt) (k : ByteArray) (w : Int) : (t.addS k w).2.m = t.m := by
  unfold TSt.addS
  split
  · rfl
  split
  · rfl
  split
  · rfl
  split
  · rfl
  split <;> rfl
theorem take_m (t : TSt) (k : ByteArray) : (t.take k).m = t.m := by
  unfold TSt.take
  split <;> rfl
theorem swapS_m (t : TSt) (k : ByteArray) (e : En) : (t.swapS k e).2.m = t.m := by
  unfold TSt.swapS
  split
  · rfl
  split
  · rfl
  split
  · rfl
  split <;> rfl
/-- What the statement reckons. -/
theorem GoodT.reck {t : TSt} (G : GoodT t) {N LQ D : Nat} (hm : t.m = N) (hL : t.l.length = LQ) (hD : N - LQ = D) :
    LQ ≤ N ∧ N ≤ 64 ∧ 0 ≤ t.base ∧ t.base ≤ t.sum ∧ t.sum ≤ 9223372036854775808 ∧ 0 ≤ (D : Int) * t.base ∧ (D : Int) * t.base + sumE (sortE t.l) ≤ t.sum ∧ 0 ≤ (N : Int) * t.base ∧ (N : Int) * t.base ≤ t.sum ∧ (∀ e ∈ sortE t.l, 0 ≤ e.2.1 ∧ 0 ≤ e.2.2 ∧ t.base ≤ e.2.1 + e.2.2 ∧ e.2.1 + e.2.2 ≤ t.sum) := by
  have h1 := G.len
  have h2 := G.m1
  have h3 := G.most
  have h4 := G.mbase
  rw [hm, hL] at h1 h3
  rw [hm] at h2 h4
  rw [hD] at h3
  rw [sumE_perm (sortE_perm t.l)]
  refine ⟨h1, by omega, G.base0, G.base_le, G.top, Int.mul_nonneg (by omega) G.base0, h3, Int.mul_nonneg (by omega) G.base0, h4, fun e he => ?_⟩
  have he' := (sortE_perm t.l).mem_iff.1 he
  obtain ⟨b1, b2, _, b4⟩ := G.bd he'
  exact ⟨b1, b2, (G.pos e he').2.2.1, b4⟩
set_option maxHeartbeats 32000000 in
theorem savingBase_walk {PT : RepT} (HP : ProgT PT) (n : Int) (A : Option Addr) (m d : Nat) (B : Option Addr) (p c : Nat) (w : World) (n0 : 0 ≤ n) (n1 : n ≤ 255) (hA : RdI w A m d) (hB : RdI w B p c) (hTab : Tab w) :
    Calls Tryz.prog 5 #[.int .u8 n, .slice A m d, .slice B p c] w (Yes w) := by
  have hcapB := hB.1
  have hmaxB := hB.2.1
  simp only [maxLen] at hmaxB
  have hS0 := Since.start w
  obtain ⟨a, rfl⟩ : ∃ a : Nat, n = (a : Int) := ⟨n.toNat, by omega⟩
  have hw0 : IntKind.i64.wrap (a : Int) = (a : Int) := by rw [IntKind.wrap_i64]; omega
  obtain ⟨r, hr⟩ : ∃ r : Nat, (a : Int).tmod 6 = (r : Int) := ⟨((a : Int).tmod 6).toNat, by rw [Int.tmod_eq_emod_of_nonneg (by omega)]; omega⟩
  have hr8 : r < 6 := by rw [Int.tmod_eq_emod_of_nonneg (by omega)] at hr; omega
  have hr2 : (a : Int) % 6 = (r : Int) := by rw [Int.tmod_eq_emod_of_nonneg (by omega)] at hr; exact hr
  obtain ⟨N, hN⟩ : ∃ N : Nat, 1 + r = N := ⟨_, rfl⟩
  have hw1 : IntKind.i64.wrap (1 + (r : Int)) = (N : Int) := by rw [IntKind.wrap_i64]; omega
  have hwr : IntKind.i64.wrap (r : Int) = (r : Int) := by rw [IntKind.wrap_i64]; omega
  have hN8 : 1 ≤ N ∧ N ≤ 6 := by omega
  have hnew := HP.new (k := 16) hS0.tidy (hS0.tb hTab) (by omega) (N : Int) (by unfold J64; omega)
  have hE : svE (N : Int) = 0 := if_neg (by omega)
  clear hN hr8
  go_enter Tryz.func5, Tryz.ntmps5
  go_wp2_with fail
  refine hnew.mono ?_
  rintro e w2 (⟨_, g, rfl, col2, p2, s2⟩ | ⟨h0, _⟩)
  rotate_left
  · rw [hE] at h0; cases h0
  rw [Int.toNat_natCast] at p2
  have A2 : AtT PT w col2 w2 16 g (newT N) := ⟨hS0.step s2 (rng0 (by omega)), p2⟩
  clear hS0 s2 p2 hnew hw0 hr hr2 hw1 hwr hE
  have hNd := new_any A m d w2
  go_wp2_with fail
  refine hNd.mono ?_
  rintro e w3 ⟨rfl, rfl⟩
  have T3 := DkT.start HP.toProgTh A2 hA
  generalize w2.heap.size = gd at *
  generalize w2.alloc (.cells #[.slice A m d, .int .i64 0] 74) = w3 at *
  clear hNd A2 hA
  go_wp2
  go_loopw [11] (fun iv wr => ∃ (i : Nat) (col : Col) (t : TSt), i ≤ p ∧ i ≤ 80 ∧ iv = .int .i64 (i : Int) ∧ DkT PT w gd A m d g col t wr ∧ t.m = N) (fun iv _ => p - (intOf iv).toNat)
  case atStart => exact ⟨0, _, newT N, Nat.zero_le _, Nat.zero_le _, rfl, T3, rfl⟩
  case round =>
    clear T3
    obtain ⟨i, col, t, hip, hi80, rfl, T, htm⟩ := hrel
    by_cases hend : i < p ∧ i < 80
    · have hpi : (i : Int) < (p : Int) := by omega
      have h8i : (i : Int) < 80 := by omega
      obtain ⟨bB, oB, s, rfl, cS, hs0, hs1⟩ := (hB.below T.ds.since.below).2.2 i hend.1
      obtain ⟨V, hVm, hV⟩ := mask_any s 7 (by omega)
      have hV' : bits .and .i64 s 7 = (V : Int) := hV
      obtain ⟨X, hXm, hX⟩ := mask_any (s / 8) 31 (by omega)
      have hX' : bits .and .i64 (s / 8) 31 = (X : Int) := hX
      obtain ⟨Y, hY⟩ : ∃ Y : Nat, 1 + X = Y := ⟨_, rfl⟩
      have hwY : IntKind.i64.wrap (1 + (X : Int)) = (Y : Int) := by rw [IntKind.wrap_i64]; omega
      have huY : IntKind.u64.wrap (Y : Int) = (Y : Int) := IntWalk.u64_in _ ⟨by omega, by omega⟩
      have hWY := Lib.hid (show W64 (Y : Int) from ⟨by omega, by omega⟩)
      clear hV hX hY hB
      have hTT := Lib.hid (And.intro T htm)
      have hSh := short_dk T.ds.dk
      clear T htm
      have hV4 : V = 0 ∨ V = 1 ∨ V = 2 ∨ 3 ≤ V := by omega
      go_upto_block 2 with fail
      go_cut [12] from 33 to 123 (fun vs wx => ∃ (col' : Col) (t' : TSt) (W : World), W = wx ∧ DkT PT w gd A m d g col' t' W ∧ t'.m = N)
      case first =>
        rcases hV4 with rfl | rfl | rfl | hV3
        · as_aux_lemma =>
            go_wp2_with fail
            refine hSh.mono ?_
            rintro e W2 ⟨k, hk, rfl, h2, g2⟩
            have T2 := hTT.out.1.deck HP.toProgTh h2 g2
            have hC := HP.take T2.pt T2.tidy k (short_sz' hk)
            clear hSh h2 g2
            go_wp2_with fail
            refine hC.mono ?_
            rintro e w5 ⟨rfl, hd⟩
            obtain ⟨col5, T5⟩ := T2.did hd
            have hm := (take_m t k).trans hTT.out.2
            clear hC hd T2
            go_wp2_with fail
            go_meet
            exact ⟨_, _, _, rfl, T5, hm⟩
        iterate 2
          · as_aux_lemma =>
              go_wp2_with fail
              refine hSh.mono ?_
              rintro e W2 ⟨k, hk, rfl, h2, g2⟩
              have T2 := hTT.out.1.deck HP.toProgTh h2 g2
              have hE2 := entry_dk T2.ds.dk
              clear hSh h2 g2
              go_wp2_with fail
              refine hE2.mono ?_
              rintro e W3 ⟨y, hy1, hy2, hy3, rfl, h3, g3⟩
              have T3 := T2.deck HP.toProgTh h3 g3
              have hC := HP.swap T3.pt T3.tidy k y (short_sz' hk) (short_sz' hy1) ⟨hy2.1, by omega⟩ ⟨hy3.1, by omega⟩
              clear hE2 h3 g3 T2
              go_wp2_with fail
              refine hC.mono ?_
              rintro e w5 ⟨rfl, hd⟩
              obtain ⟨col5, T5⟩ := T3.did hd
              have hm := (swapS_m t k y).trans hTT.out.2
              clear hC hd T3
              go_wp2_with fail
              go_meet
              exact ⟨_, _, _, rfl, T5, hm⟩
        · as_aux_lemma =>
            have e0 : ((V : Int) == 0) = false := beq_false_of_ne (by omega)
            have e1 : ((V : Int) == 1) = false := beq_false_of_ne (by omega)
            have e2 : ((V : Int) == 2) = false := beq_false_of_ne (by omega)
            go_wp2_with fail
            refine hSh.mono ?_
            rintro e W2 ⟨k, hk, rfl, h2, g2⟩
            have T2 := hTT.out.1.deck HP.toProgTh h2 g2
            have hC := HP.add T2.pt T2.tidy k (Y : Int) (short_sz' hk) hWY.out
            clear hSh h2 g2
            go_wp2_with fail
            refine hC.mono ?_
            rintro e w5 ⟨rfl, hd⟩
            obtain ⟨col5, T5⟩ := T2.did hd
            have hm := (addS_m t k (Y : Int)).trans hTT.out.2
            clear hC hd T2
            go_wp2_with fail
            go_meet
            exact ⟨_, _, _, rfl, T5, hm⟩
      case rest =>
        as_aux_lemma =>
          clear hTT hV4 hV' hVm cS hX' hXm hwY huY hWY hSh
          obtain ⟨col5, q, W5, hW5, T5, hqm⟩ := hcut
          subst hW5
          obtain ⟨LQ, hLQ⟩ : ∃ LQ, q.l.length = LQ := ⟨_, rfl⟩
          obtain ⟨D, hD⟩ : ∃ D, N - LQ = D := ⟨_, rfl⟩
          obtain ⟨a1, a2, a3, a4, a5, a6, a7, a8, a9, a10⟩ := (HP.good T5.pt).reck hqm hLQ hD
          have hl' : (sortE q.l).length = LQ := by rw [sortE_len, hLQ]
          obtain ⟨l', hl2⟩ : ∃ l', sortE q.l = l' := ⟨_, rfl⟩
          rw [hl2] at a7 a10 hl'
          have hwD : IntKind.i64.wrap ((N : Int) - (LQ : Int)) = (D : Int) := by rw [IntKind.wrap_i64]; omega
          have huD : IntKind.u64.wrap (D : Int) = (D : Int) := IntWalk.u64_in _ ⟨by omega, by omega⟩
          have huN : IntKind.u64.wrap (N : Int) = (N : Int) := IntWalk.u64_in _ ⟨by omega, by omega⟩
          obtain ⟨P, hP⟩ : ∃ P, (D : Int) * q.base = P := ⟨_, rfl⟩
          obtain ⟨P2, hP2⟩ : ∃ P, (N : Int) * q.base = P := ⟨_, rfl⟩
          rw [hP] at a6 a7
          rw [hP2] at a8 a9
          obtain ⟨k1, hk1⟩ : ∃ k, q.base = k := ⟨_, rfl⟩
          obtain ⟨k2, hk2⟩ : ∃ k, q.sum = k := ⟨_, rfl⟩
          rw [hk1] at hP hP2 a3 a4 a10
          rw [hk2] at a4 a5 a7 a9 a10
          have hct : ∀ e ∈ l', 0 ≤ ctE e := fun e he => by
            obtain ⟨b1, b2, _, _⟩ := a10 e he
            unfold ctE; omega
          have hs0' := sumE_nonneg hct
          have hwP : IntKind.u64.wrap ((D : Int) * k1) = P := by rw [hP]; exact IntWalk.u64_in _ ⟨by omega, by omega⟩
          have hwP2 : IntKind.u64.wrap ((N : Int) * k1) = P2 := by rw [hP2]; exact IntWalk.u64_in _ ⟨by omega, by omega⟩
          have hLN : ¬ (LQ : Int) > (N : Int) := by omega
          have hP2k : ¬ P2 > k2 := by omega
          have hpart := fun j => sumE_part hct j
          have hLn := Lib.hid (show ∀ W, Below W5.heap.size W5 W → Calls Tryz.prog 15 #[.pointer (some ⟨g, 0, none⟩)] W fun e w' => e = .returned (.int .i64 (LQ : Int)) ∧ Below W.heap.size W w' from fun W hb => (HP.len (T5.below HP.toProgTh hb).pt (T5.below HP.toProgTh hb).tidy).mono fun e w' h => ⟨by rw [h.1, hLQ], h.2⟩)
          have hUn := Lib.hid (show ∀ W, Below W5.heap.size W5 W → Calls Tryz.prog 13 #[.pointer (some ⟨g, 0, none⟩)] W fun e w' => e = .returned (.int .u64 k1) ∧ Below W.heap.size W w' from fun W hb => (HP.untr (T5.below HP.toProgTh hb).pt (T5.below HP.toProgTh hb).tidy).mono fun e w' h => ⟨by rw [h.1, hk1], h.2⟩)
          have hTo := Lib.hid (show ∀ W, Below W5.heap.size W5 W → Calls Tryz.prog 14 #[.pointer (some ⟨g, 0, none⟩)] W fun e w' => e = .returned (.int .u64 k2) ∧ Below W.heap.size W w' from fun W hb => (HP.total (T5.below HP.toProgTh hb).pt (T5.below HP.toProgTh hb).tidy).mono fun e w' h => ⟨by rw [h.1, hk2], h.2⟩)
          have hEn := Lib.hid (show ∀ W, Below W5.heap.size W5 W → Calls Tryz.prog 16 #[.pointer (some ⟨g, 0, none⟩)] W (RowOut kEn W l') from fun W hb => by
            have h := HP.entries (T5.below HP.toProgTh hb).pt (T5.below HP.toProgTh hb).tidy
            rw [hl2] at h
            exact h)
          have HT5 := Lib.hid (And.intro T5 hqm)
          clear T5 hqm hLQ hl2 hk1 hk2 hD hP hP2 hct
          go_wp2_with fail
          refine (hLn.out _ (Below.refl _ _)).mono ?_
          rintro e w6 ⟨rfl, d6⟩
          go_wp2_with fail
          refine (hUn.out _ d6).mono ?_
          rintro e w7 ⟨rfl, b7⟩
          have d7 := below_then d6 b7
          clear d6 b7
          go_wp2_with fail
          refine (hEn.out _ d7).mono ?_
          rintro e w8 ⟨A8, n8, c8, hl8, rfl, R8, _, b8⟩
          obtain rfl : LQ = n8 := by rw [← hl', hl8]
          have d8 := below_then d7 b8
          have hcap8 := R8.cap
          have hmax8 := R8.max
          clear d7 b8 hEn hl8
          go_wp2
          go_loopw [13, 84] (fun sv jv wr => ∃ (j : Nat) (y : Int), j ≤ LQ ∧ sv = .int .u64 y ∧ y = P + sumE (l'.take j) ∧ jv = .int .i64 (j : Int) ∧ Below w8.heap.size w8 wr) (fun _ jv _ => LQ - (intOf jv).toNat)
          case atStart => exact ⟨0, P, Nat.zero_le _, rfl, by simp [sumE], rfl, Below.refl _ _⟩
          case round =>
            obtain ⟨j, y, hj, rfl, hy, rfl, hb⟩ := hrel
            by_cases hjl : j < LQ
            · obtain ⟨b, o, e, rfl, he, z0, z1, z2⟩ := (R8.below hb).atEn hjl
              have hjI : (j : Int) < (LQ : Int) := by omega
              obtain ⟨q1, q2, q3, q4⟩ := a10 e (List.mem_of_getElem? he)
              have hnx := sumE_next he
              have hp1 := hpart (j + 1)
              obtain ⟨y2, hy2⟩ : ∃ y2, y + (e.2.1 + e.2.2) = y2 := ⟨_, rfl⟩
              have HY := Lib.hid (show y2 = P + sumE (l'.take (j + 1)) by rw [hnx, ← hy2, hy]; unfold ctE; omega)
              have hy3 : 0 ≤ y2 ∧ y2 ≤ 9223372036854775808 := by rw [HY.out]; omega
              have hq5 : 0 ≤ e.2.1 + e.2.2 ∧ e.2.1 + e.2.2 ≤ 9223372036854775808 := ⟨by omega, Int.le_trans q4 a5⟩
              have hwe : IntKind.u64.wrap (e.2.1 + e.2.2) = e.2.1 + e.2.2 := IntWalk.u64_in _ ⟨hq5.1, by omega⟩
              have hwy : IntKind.u64.wrap (y + (e.2.1 + e.2.2)) = y2 := by rw [hy2]; exact IntWalk.u64_in _ ⟨by omega, by omega⟩
              have hge : ¬ e.2.1 + e.2.2 < k1 := by omega
              have b1 : Below w8.heap.size w8 (wr.alloc (.cells (VE e) 32)) := hb.alloc hb.size _
              have v1 : (wr.alloc (.cells (VE e) 32)).cell? ⟨wr.heap.size, 1, none⟩ = some (.int .u64 e.2.1) := (World.cell?_alloc_at (w := wr) _ _ _ _ rfl).trans rfl
              have v2 : (wr.alloc (.cells (VE e) 32)).cell? ⟨wr.heap.size, 2, none⟩ = some (.int .u64 e.2.2) := (World.cell?_alloc_at (w := wr) _ _ _ _ rfl).trans rfl
              clear hnx hp1 hy2 hy he hb
              go_wp2_with fail
              generalize hW1 : wr.alloc (.cells #[.string e.1, .int .u64 e.2.1, .int .u64 e.2.2] 32) = W1 at *
              generalize wr.heap.size = G at *
              clear hW1 z0 z1 z2
              have d1 := below_then d8 b1
              go_region_held3 (fun W => W.cell? ⟨G, 1, none⟩ = some (.int .u64 e.2.1) ∧ W.cell? ⟨G, 2, none⟩ = some (.int .u64 e.2.2) ∧ Below W1.heap.size W1 W) (first | exact ⟨(cellB v1 b9).1, (cellB v2 b9).1, b9⟩ | exact ⟨(cellB v1 (bdM _)).1, (cellB v2 (bdM _)).1, bdM _⟩) ((go_at_call 13; refine (hUn.out _ (below_then d1 (bdM _))).mono ?_; rintro e' w9 ⟨rfl, b9'⟩; have b9 := below_then (bdM W1) b9'))
              all_goals
                have u1 := (cellB v1 b9).1
                have u2 := (cellB v2 b9).1
                have b10 := below_then b1 b9
                clear v1 v2 b9 b1 b9'
                go_wp2
                go_roundw
                case rel => exact ⟨j + 1, y2, by omega, rfl, HY.out, by go_num, b10⟩
                case measure => (simp [intOf] <;> omega)
            · have hjI : ¬ (j : Int) < (LQ : Int) := by omega
              have hyk : ¬ y > k2 := by
                rw [hy, List.take_of_length_le (by omega)]; omega
              have d9 := below_then d8 hb
              clear hy hb hpart R8 d8
              go_wp2_with fail
              refine (hLn.out _ d9).mono ?_
              rintro e w10 ⟨rfl, b10⟩
              have d10 := below_then d9 b10
              clear d9 b10
              go_wp2_with fail
              refine (hTo.out _ d10).mono ?_
              rintro e w11 ⟨rfl, b11⟩
              have d11 := below_then d10 b11
              clear d10 b11
              go_wp2_with fail
              refine (hUn.out _ d11).mono ?_
              rintro e w12 ⟨rfl, b12⟩
              have d12 := below_then d11 b12
              clear d11 b12
              go_wp2_with fail
              refine (hTo.out _ d12).mono ?_
              rintro e w13 ⟨rfl, b13⟩
              have d13 := below_then d12 b13
              have T14 := HT5.out.1.below HP.toProgTh d13
              clear d12 b13 hLn hTo hUn d13
              go_wp2
              go_roundw
              case rel => exact ⟨i + 1, _, _, by omega, by omega, by go_num, T14, HT5.out.2⟩
              case measure => (simp [intOf] <;> omega)
    · have hE := Lib.hid T.ds.since
      have hcs : ¬ (i : Int) < (p : Int) ∨ ((i : Int) < (p : Int) ∧ ¬ (i : Int) < 80) := by omega
      clear T hB hend
      rcases hcs with hpi | ⟨hpi, h6i⟩
      all_goals
        go_wp2_with fail
        refine (sawake_any HP.toProgTh _ (hE.out.tab hTab)).mono ?_
        rintro e w9 ⟨rfl, b9⟩
        have hb := (hE.out.belowL b9).below
        clear hE b9
        go_wp2
        go_ret
        exact ⟨rfl, hb⟩
end Go.Proofs.YtlfhkhnhcckajaaGreatDoor
