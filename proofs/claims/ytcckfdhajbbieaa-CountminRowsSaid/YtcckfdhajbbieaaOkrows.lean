/- The statements about package countmin: CountminRows. Conditions: the program's sketches keep their contracts (ProgSk, ProgSo). -/
import Derived.Test.YtcckfdhajbbieaaOkalone
namespace Go.Proofs.Ytcckfdhajbbieaa
open Go.ChangeShapes Go.WideShapes Go.ChangeAt Go.RowKit
set_option linter.unusedVariables false
set_option linter.unusedSimpArgs false
set_option maxRecDepth 100000

theorem addK_len {ix : Ix} {s : KSt} {k : ByteArray} {x : Int} : (s.add ix k x).2.rows.length = s.rows.length := by
  unfold KSt.add
  split
  · rfl
  split
  · rfl
  split
  · rfl
  · exact put_len
theorem estT_eq {T : List Int} {sd : Int} {rows : List (List Int)} {k : ByteArray} (h : T.length = 16) : estT T sd rows k = estK (ixH T sd) rows k := by
  unfold estT estK
  by_cases h0 : rows.length = 0
  · rw [if_pos (.inl h0), if_pos h0]
  · rw [if_neg (by omega), if_neg h0]
/-- The words lie in a block of colour 0. -/
structure TabK (col : Col) (W : World) (kt ct : Nat) (T : List Int) : Prop where
  rd : RdU W (some ⟨kt, 0, none⟩) 16 ct T
  c0 : col kt = 0
theorem TabK.step {P : Nat → Prop} {col col' : Col} {W W' : World} {kt ct : Nat} {T : List Int} (h : TabK col W kt ct T) (s : StepC P col W col' W') (h0 : ¬ P 0) : TabK col' W' kt ct T := by
  obtain ⟨b, o, z, hA, _, _, _, hb, _⟩ := h.rd.at_ (k := 0) (by omega)
  injection hA with hA; injection hA with e1 e2; subst e1
  exact ⟨h.rd.stepC s (by rw [h.c0]; exact h0), (s.kept _ hb).trans h.c0⟩
/-- A sketch of m rows of n counters. -/
structure ShK (M N : Nat) (s : KSt) : Prop where
  good : GoodK N s
  len : s.rows.length = M
theorem ShK.new {M N : Nat} (hM : 1 ≤ M) (hN : 1 ≤ N) : ShK M N (newK M N) := ⟨newK_good hM hN, by simp [newK]⟩
theorem ShK.add {M N : Nat} {ix : Ix} {s : KSt} {k : ByteArray} {x : Int} (h : ShK M N s) (hx : 0 ≤ x) : ShK M N (s.add ix k x).2 := ⟨h.good.add k hx, addK_len.trans h.len⟩
set_option maxHeartbeats 16000000 in
theorem countminRows_walk {PK : RepSk} (HP : ProgSk PK) (HO : ProgSo) (dp wd : Int) (A : Option Addr) (m d : Nat) (B : Option Addr) (p c : Nat) (sd : Int) (w : World) (d0 : 0 ≤ dp) (d1 : dp ≤ 255) (n0 : 0 ≤ wd) (n1 : wd ≤ 255) (hA : RdI w A m d) (hB : Arg16 w B p c) (s0 : 0 ≤ sd) (s1 : sd ≤ 18446744073709551615) :
    Calls Try.prog 7 #[.int .u8 dp, .int .u8 wd, .slice A m d, .slice B p c, .int .u64 sd] w (Yes w) := by
  obtain ⟨L, hB⟩ := hB
  have hcapB := hB.cap
  have hmaxB := hB.max
  obtain ⟨a, rfl⟩ : ∃ a : Nat, dp = (a : Int) := ⟨dp.toNat, by omega⟩
  obtain ⟨b, rfl⟩ : ∃ b : Nat, wd = (b : Int) := ⟨wd.toNat, by omega⟩
  have hwa : IntKind.i64.wrap (a : Int) = (a : Int) := by rw [IntKind.wrap_i64]; omega
  have hwb : IntKind.i64.wrap (b : Int) = (b : Int) := by rw [IntKind.wrap_i64]; omega
  obtain ⟨ra, hra, hra4⟩ : ∃ r : Nat, (a : Int).tmod 4 = (r : Int) ∧ r < 4 := ⟨((a : Int).tmod 4).toNat, by rw [Int.tmod_eq_emod_of_nonneg (by omega)]; omega, by rw [Int.tmod_eq_emod_of_nonneg (by omega)]; omega⟩
  obtain ⟨rb, hrb, hrb20⟩ : ∃ r : Nat, (b : Int).tmod 20 = (r : Int) ∧ r < 20 := ⟨((b : Int).tmod 20).toNat, by rw [Int.tmod_eq_emod_of_nonneg (by omega)]; omega, by rw [Int.tmod_eq_emod_of_nonneg (by omega)]; omega⟩
  have hra2 : (a : Int) % 4 = (ra : Int) := by rw [Int.tmod_eq_emod_of_nonneg (by omega)] at hra; exact hra
  have hrb2 : (b : Int) % 20 = (rb : Int) := by rw [Int.tmod_eq_emod_of_nonneg (by omega)] at hrb; exact hrb
  obtain ⟨M, hM⟩ : ∃ M : Nat, 1 + ra = M := ⟨_, rfl⟩
  obtain ⟨N, hN⟩ : ∃ N : Nat, 1 + rb = N := ⟨_, rfl⟩
  have hwra : IntKind.i64.wrap (ra : Int) = (ra : Int) := by rw [IntKind.wrap_i64]; omega
  have hwrb : IntKind.i64.wrap (rb : Int) = (rb : Int) := by rw [IntKind.wrap_i64]; omega
  have hM1 : IntKind.i64.wrap (1 + (ra : Int)) = (M : Int) := by rw [IntKind.wrap_i64]; omega
  have hN1 : IntKind.i64.wrap (1 + (rb : Int)) = (N : Int) := by rw [IntKind.wrap_i64]; omega
  have hMN : 1 ≤ M ∧ M ≤ 4 ∧ 1 ≤ N ∧ N ≤ 20 := by omega
  have hc : ckE (M : Int) (N : Int) 16 = 0 := by unfold ckE; rw [if_neg (by omega)]; rfl
  have D1 := DkS.new hA
  have hNd := new_any A m d w
  obtain ⟨w1, hw1⟩ : ∃ w1, w.alloc (.cells #[.slice A m d, .int .i64 0] 58) = w1 := ⟨_, rfl⟩
  obtain ⟨gd, hgd⟩ : ∃ gd, w.heap.size = gd := ⟨_, rfl⟩
  rw [hw1] at hNd D1
  rw [hgd] at hNd D1
  have hTd := table_dk D1.dk
  clear hM hN hra4 hrb20
  go_enter Try.func7, Try.ntmps7
  go_wp2_with fail
  refine hNd.mono ?_
  rintro e w2 ⟨rfl, hw2⟩
  subst hw2
  clear hNd
  go_wp2_with fail
  refine hTd.mono ?_
  rintro e w3 ⟨kt, ct, T, rfl, hT3, hkt, hD3, hg3⟩
  have D3 := (D1.deck hD3 hg3).1
  have K3 : TabK (dye (fun _ => 0) (some gd) 1) w3 kt ct T := ⟨hT3, dye_no (fun e => by injection e with e; have := D1.dk.lt; omega)⟩
  have hNp := HP.new (k := 16) D3.tidy (by omega) hT3 (M : Int) (N : Int) (by unfold J64; omega) (by unfold J64; omega) ⟨s0, s1⟩
  have hTl := hT3.len
  clear hTd D1 hD3 hg3 hw1 hA hkt hT3
  go_wp2_with fail
  refine hNp.mono ?_
  rintro e w4 (⟨_, g, rfl, col4, p4, t4⟩ | ⟨h0, _⟩)
  rotate_left
  · exact absurd hc h0
  have K4 := K3.step t4 (rng0 (by omega))
  have D4 := D3.step t4 (by unfold Rng; omega) (rng0 (by omega))
  rw [Int.toNat_natCast, Int.toNat_natCast] at p4
  have T4 : DkSk PK w gd A m d g T sd col4 (newK M N) w4 := ⟨D4, p4⟩
  have H4 : ShK M N (newK M N) := ShK.new hMN.1 hMN.2.2.1
  clear hNp K3 D3 t4 D4 p4 hc hgd
  go_wp2
  go_loopw [15] (fun iv wr => ∃ (i : Nat) (col : Col) (s : KSt), i ≤ p ∧ i ≤ 50 ∧ iv = .int .i64 (i : Int) ∧ DkSk PK w gd A m d g T sd col s wr ∧ TabK col wr kt ct T ∧ ShK M N s) (fun iv _ => p - (intOf iv).toNat)
  case atStart => exact ⟨0, col4, _, Nat.zero_le _, Nat.zero_le _, rfl, T4, K4, H4⟩
  case round =>
    clear T4 K4 H4
    obtain ⟨i, col, s, hip, hi50, rfl, T5, K5, H5⟩ := hrel
    by_cases hend : i < p ∧ i < 50
    · as_aux_lemma =>
        have hpi : (i : Int) < (p : Int) := by omega
        have h5i : (i : Int) < 50 := by omega
        obtain ⟨bB, oB, x, rfl, hx, hx0, hx1, cS⟩ := hB.at_ hend.1
        have hcell : ∀ W, Below w.heap.size w W → W.cell? ⟨bB, oB + i, none⟩ = some (.int .u16 x) := fun W hb => (hb.cell (p := ⟨bB, oB + i, none⟩) (World.block_lt_of_cell? w _ cS)).trans cS
        have hux : IntKind.u64.wrap x = x := IntWalk.u64_in _ ⟨by omega, by omega⟩
        have hu1 : IntKind.u64.wrap (1 + x) = 1 + x := IntWalk.u64_in _ ⟨by omega, by omega⟩
        have hTT := Lib.hid (And.intro T5 (And.intro K5 H5))
        clear T5 K5 H5 hx hB cS
        go_wp2
        go_region_held3 (fun W => W.cell? ⟨bB, oB + i, none⟩ = some (.int .u16 x)) (first | exact hcell wr hTT.out.1.ds.since.below | exact hcell _ T2.ds.since.below | exact hcell _ T9.ds.since.below) (first | (go_at_call 18; refine (short_dk (hTT.out.1.ds.dk.drewN 1)).mono ?_; rintro e W2 ⟨t, ht, rfl, h2, g2''⟩; have g2' := World.grownBy.trans (grow_drewN (World.grownBy.refl wr (some gd)) 1) g2''; obtain ⟨T2, s2⟩ := hTT.out.1.deck HP h2 g2'; clear h2 g2' g2'') | (go_at_call 14; refine (HP.add T2.pt T2.tidy t (1 + x) (by omega) ⟨by omega, by omega⟩).mono ?_; rintro e w9 ⟨rfl, hd⟩; obtain ⟨col9, T9, s9⟩ := T2.did hd; clear hd))
        all_goals
          have HF := Lib.hid (And.intro T9 (And.intro ((hTT.out.2.1.step s2 (by omega)).step s9 (rng0 (by omega))) (hTT.out.2.2.add (ix := ixH T sd) (k := t) (x := 1 + x) (by omega))))
          clear T9 s9 T2 s2 hTT
          go_wp2
          go_roundw
          case rel => exact ⟨i + 1, col9, _, by omega, by omega, by go_num, HF.out.1, HF.out.2.1, HF.out.2.2⟩
          case measure => (simp [intOf] <;> omega)
    · have hcs : ¬ (i : Int) < (p : Int) ∨ ((i : Int) < (p : Int) ∧ ¬ (i : Int) < 50) := by omega
      have hRw := HP.rows T5.pt T5.tidy
      have hTT := Lib.hid (And.intro T5 (And.intro K5 H5))
      clear hend T5 K5 H5 hB
      rcases hcs with hpi | ⟨hpi, h5i⟩
      all_goals
        go_wp2_with fail
        refine hRw.mono ?_
        rintro e w6 ⟨A6, n6, c6, rfl, hn6, hc6, hR6, h6⟩
        obtain rfl : n6 = M := hR6.rd.choose_spec.2.1.symm.trans hTT.out.2.2.len
        have HGD := Lib.hid (hTT.out.1.ds.dk.lt)
        have T6 := hTT.out.1.below HP h6
        have K6 := hTT.out.2.1.step (P := fun _ => False) (StepC.below hTT.out.1.tidy h6) (fun h => h)
        have hTo := fun W (hb : Below w6.heap.size w6 W) => HP.total (T6.below HP hb).pt (T6.below HP hb).tidy
        have HH := Lib.hid (And.intro T6 (And.intro K6 (And.intro hR6 hTT.out.2.2)))
        clear hRw h6 T6 K6 hR6 hTT
        go_wp2
        go_loopw [70] (fun qv wx => ∃ q : Nat, q ≤ n6 ∧ qv = .int .i64 (q : Int) ∧ Below w6.heap.size w6 wx) (fun qv _ => n6 - (intOf qv).toNat)
        case atStart => exact ⟨0, Nat.zero_le _, rfl, Below.refl _ _⟩
        case round =>
          obtain ⟨q, hq, rfl, hb⟩ := hrel
          by_cases hlt : q < n6
          · have hqi : (q : Int) < (n6 : Int) := by omega
            obtain ⟨b7, o7, ⟨SA, sn, sc⟩, r, rfl, hr, cS, hRd⟩ := (HH.out.2.2.1.below hb).rd.at_ hlt
            have cS' : wr.cell? ⟨b7, o7 + q, none⟩ = some (.slice SA sn sc) := cS
            have hRd' : RdU wr SA sn sc r := hRd
            have hrl : r.length = N := HH.out.2.2.2.good.len r (List.mem_of_getElem? hr)
            obtain rfl : sn = N := hRd'.len.symm.trans hrl
            have hbd := HH.out.2.2.2.good.bd r (List.mem_of_getElem? hr)
            have hne : ((sn : Int) != (sn : Int)) = false := by simp
            have hcp := hRd'.cap
            have hmx := hRd'.max
            clear cS hRd hr hrl
            generalize wr = wo at *
            go_wp2
            go_loopw [83] (fun zv wx => ∃ z : Nat, z ≤ sn ∧ zv = .int .i64 (z : Int) ∧ Below wo.heap.size wo wx) (fun zv _ => sn - (intOf zv).toNat)
            case atStart => exact ⟨0, Nat.zero_le _, rfl, Below.refl _ _⟩
            case round =>
              obtain ⟨z, hz, rfl, hb2⟩ := hrel
              by_cases hlz : z < sn
              · have hzi : (z : Int) < (sn : Int) := by omega
                obtain ⟨b8, o8, v, rfl, hv, v0, v1, _, cV⟩ := hRd'.at_ hlz
                have cV' : wr.cell? ⟨b8, o8 + z, none⟩ = some (.int .u64 v) := (cellB cV hb2).1
                have hng : ¬ s.sum < v := by have := (hbd v (List.mem_of_getElem? hv)).2; omega
                have hT := hTo wr (below_then hb hb2)
                have HB := Lib.hid hb2
                clear hv cV hb2
                go_wp2_with fail
                refine hT.mono ?_
                rintro e w8 ⟨rfl, h8⟩
                have HB8 := Lib.hid (below_then HB.out h8)
                clear hT h8 cV'
                go_wp2
                go_roundw
                case rel => exact ⟨z + 1, by omega, by go_num, HB8.out⟩
                case measure => (simp [intOf] <;> omega)
              · have hzi : ¬ (z : Int) < (sn : Int) := by omega
                have HB := Lib.hid (below_then hb hb2)
                clear hb2 hRd' cS'
                go_wp2
                go_roundw
                case rel => exact ⟨q + 1, by omega, by go_num, HB.out⟩
                case measure => (simp [intOf] <;> omega)
          · have hqi : ¬ (q : Int) < (n6 : Int) := by omega
            have T8 := HH.out.1.below HP hb
            have K8 := HH.out.2.1.step (P := fun _ => False) (StepC.below HH.out.1.tidy hb) (fun h => h)
            have R8 := HH.out.2.2.1.below hb
            have hSh := short_dk T8.ds.dk
            have hee : ((n6 : Int) == (n6 : Int)) = true := by simp
            have H8 := Lib.hid (And.intro T8 (And.intro K8 R8))
            clear T8 K8 R8 hb hTo HH
            go_wp2_with fail
            refine hSh.mono ?_
            rintro e w9 ⟨t, ht, rfl, hD, hg⟩
            obtain ⟨T9, s9⟩ := H8.out.1.deck HP hD hg
            have K9 := H8.out.2.1.step s9 (by omega)
            have R9 := (H8.out.2.2.grown hg HGD.out).rd
            have hOf := HO.of (sd := sd) t w9 R9 K9.rd ⟨s0, s1⟩ (by omega) ⟨hn6, hc6⟩
            rw [estT_eq hTl] at hOf
            obtain ⟨v, hv⟩ : ∃ v, estK (ixH T sd) s.rows t = v := ⟨_, rfl⟩
            have hEs := fun W (hb : Below w9.heap.size w9 W) => HP.est (T9.below HP hb).pt (T9.below HP hb).tidy t (by omega)
            rw [hv] at hOf
            simp only [hv] at hEs
            have hvv : (v == v) = true := by simp
            have hB9 := T9.ds.since.below
            clear hSh hD hg T9 s9 K9 R9 H8 hv ht
            go_wp2_with fail
            refine hOf.mono ?_
            rintro e w10 ⟨rfl, h10⟩
            have hE10 := hEs w10 h10
            have b10 := below_then hB9 h10
            clear hOf h10 hEs
            go_wp2_with fail
            refine hE10.mono ?_
            rintro e w11 ⟨rfl, h11⟩
            have b11 := below_then b10 h11
            clear hE10 h11
            go_wp2_with fail
            refine (kawake_any HP _).mono ?_
            rintro e WI ⟨rfl, hbI⟩
            have hbE := below_then b11 hbI
            clear hbI
            go_wp2
            go_ret
            exact ⟨rfl, hbE⟩
end Go.Proofs.Ytcckfdhajbbieaa
