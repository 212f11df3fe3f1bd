/- The statements about package bounds: BoundsHold. Conditions: the program's bounds keep their contracts (ProgBd, ProgSt). -/
import Derived.Test.YtbdafhephmoedaaObawake
namespace Go.Proofs.Ytbdafhephmoedaa
open Go.ChangeShapes Go.WideShapes Go.ChangeAt Go.RowKit
set_option linter.unusedVariables false
set_option linter.unusedSimpArgs false
set_option maxRecDepth 100000

/-- Two boxes of the call's own. -/
structure TwD (w : World) (G1 G2 : Nat) (a b : Int × Int) (W : World) : Prop where
  x1 : BoxC (fun _ => 0) W G1 0 (VD a) 26
  x2 : BoxC (fun _ => 0) W G2 0 (VD b) 26
  low : w.heap.size ≤ G1
  ne : G1 < G2
  below : Below w.heap.size w W
section
variable {w W W' : World} {G1 G2 : Nat} {a b a' b' : Int × Int}
theorem TwD.next (h : TwD w G1 G2 a b W) (hb : Below W.heap.size W W') : TwD w G1 G2 a b W' :=
  ⟨⟨(hb.block G1 h.x1.lt).trans h.x1.heap, rfl⟩, ⟨(hb.block G2 h.x2.lt).trans h.x2.heap, rfl⟩, h.low, h.ne, below_then h.below hb⟩
theorem TwD.cells (h : TwD w G1 G2 a b W) : W.cell? ⟨G1, 0, none⟩ = some (.int .u64 a.1) ∧ W.cell? ⟨G1, 1, none⟩ = some (.int .u64 a.2) ∧ W.cell? ⟨G2, 0, none⟩ = some (.int .u64 b.1) ∧ W.cell? ⟨G2, 1, none⟩ = some (.int .u64 b.2) := ⟨h.x1.cell 0 rfl, h.x1.cell 1 rfl, h.x2.cell 0 rfl, h.x2.cell 1 rfl⟩
/-- Both are written. -/
theorem TwD.put (h : TwD w G1 G2 a b W) (a' b' : Int × Int) : TwD w G1 G2 a' b' ((((W.setCell ⟨G1, 0, none⟩ (.int .u64 a'.1)).setCell ⟨G1, 1, none⟩ (.int .u64 a'.2)).setCell ⟨G2, 0, none⟩ (.int .u64 b'.1)).setCell ⟨G2, 1, none⟩ (.int .u64 b'.2)) := by
  have hl := h.low
  have hn := h.ne
  have y1 := (h.x1.put 0 (.int .u64 a'.1)).put 1 (.int .u64 a'.2)
  have e2 : ((W.setCell ⟨G1, 0, none⟩ (.int .u64 a'.1)).setCell ⟨G1, 1, none⟩ (.int .u64 a'.2)).heap[G2]? = W.heap[G2]? := (Below.heap_setCell _ _ _ _ (by simp only; omega)).trans (Below.heap_setCell _ _ _ _ (by simp only; omega))
  have x2 : BoxC (fun _ => 0) ((W.setCell ⟨G1, 0, none⟩ (.int .u64 a'.1)).setCell ⟨G1, 1, none⟩ (.int .u64 a'.2)) G2 0 (VD b) 26 := ⟨e2.trans h.x2.heap, rfl⟩
  have y2 := (x2.put 0 (.int .u64 b'.1)).put 1 (.int .u64 b'.2)
  refine ⟨⟨((Below.heap_setCell _ _ _ _ (by simp only; omega)).trans (Below.heap_setCell _ _ _ _ (by simp only; omega))).trans y1.heap, rfl⟩, y2, hl, hn, ?_⟩
  exact (((h.below.setCell (p := ⟨G1, 0, none⟩) hl _).setCell (p := ⟨G1, 1, none⟩) hl _).setCell (p := ⟨G2, 0, none⟩) (by show w.heap.size ≤ G2; omega) _).setCell (p := ⟨G2, 1, none⟩) (by show w.heap.size ≤ G2; omega) _
end
theorem hold_sum {a b : Int × Int} {m n : Int} (ha : WD a) (hb : WD b) (h1 : inD a m = true) (h2 : inD b n = true) (hm : 0 ≤ m ∧ m ≤ 9223372036854775807) (hn : 0 ≤ n ∧ n ≤ 9223372036854775807) : inD (adD a b) (m + n) = true := by
  simp only [inD, Bool.and_eq_true, decide_eq_true_eq] at h1 h2 ⊢
  obtain ⟨⟨a1, a2⟩, a3, a4⟩ := ha
  obtain ⟨⟨b1, b2⟩, b3, b4⟩ := hb
  unfold adD addV
  simp only
  constructor <;> split <;> omega
theorem hold_cap {a : Int × Int} {m k : Int} (h1 : inD a m = true) (h2 : ¬ m > k) : inD (cpD a k) m = true := by
  simp only [inD, Bool.and_eq_true, decide_eq_true_eq] at h1 ⊢
  unfold cpD
  simp only
  omega
theorem cap_W {x k : Int} (hx : W64 x) (hk : W64 k) : W64 (min x k) := by unfold W64 at *; omega
/-- Bits of numbers that are not negative. -/
theorem or_ge {m : Int} (hm : 0 ≤ m ∧ m ≤ 9223372036854775807) : ∃ z : Int, bits .or .u64 m 7 = z ∧ m ≤ z ∧ z ≤ 18446744073709551615 := by
  obtain ⟨k, rfl⟩ : ∃ k : Nat, m = (k : Int) := ⟨m.toNat, by omega⟩
  have h1 : (BitVec.ofInt 64 (k : Int) ||| BitVec.ofInt 64 (7 : Int)).toNat < 2 ^ 64 := (BitVec.ofInt 64 (k : Int) ||| BitVec.ofInt 64 (7 : Int)).isLt
  have h2 : k ≤ (BitVec.ofInt 64 (k : Int) ||| BitVec.ofInt 64 (7 : Int)).toNat := by
    rw [BitVec.toNat_or, BitVec.ofInt_natCast, BitVec.toNat_ofNat, Nat.mod_eq_of_lt (by omega)]
    exact Nat.left_le_or
  refine ⟨((BitVec.ofInt 64 (k : Int) ||| BitVec.ofInt 64 (7 : Int)).toNat : Int), ?_, by omega, by omega⟩
  show IntKind.u64.wrap ((BitVec.ofInt 64 (k : Int) ||| BitVec.ofInt 64 (7 : Int)).toNat : Int) = _
  exact IntWalk.u64_in _ (by omega)
theorem clear_le {n : Int} (hn : 0 ≤ n ∧ n ≤ 9223372036854775807) : ∃ z : Int, bits .andNot .u64 n 7 = z ∧ 0 ≤ z ∧ z ≤ n := by
  obtain ⟨k, rfl⟩ : ∃ k : Nat, n = (k : Int) := ⟨n.toNat, by omega⟩
  have h2 : (BitVec.ofInt 64 (k : Int) &&& ~~~(BitVec.ofInt 64 (7 : Int))).toNat ≤ k := by
    rw [BitVec.toNat_and, BitVec.ofInt_natCast, BitVec.toNat_ofNat, Nat.mod_eq_of_lt (by omega)]
    exact Nat.and_le_left
  refine ⟨((BitVec.ofInt 64 (k : Int) &&& ~~~(BitVec.ofInt 64 (7 : Int))).toNat : Int), ?_, by omega, by omega⟩
  show IntKind.u64.wrap ((BitVec.ofInt 64 (k : Int) &&& ~~~(BitVec.ofInt 64 (7 : Int))).toNat : Int) = _
  exact IntWalk.u64_in _ (by omega)
set_option maxHeartbeats 8000000 in
theorem boundsHold_walk (HB : ProgBd) (HS : ProgSt) (a b : Int × Int) (m n most : Int) (w : World) (ha : WD a) (hb : WD b) (m0 : 0 ≤ m) (m1 : m ≤ 18446744073709551615) (n0 : 0 ≤ n) (n1 : n ≤ 18446744073709551615) (k0 : 0 ≤ most) (k1 : most ≤ 18446744073709551615) :
    Calls Try.prog 5 #[.agg (VD a), .agg (VD b), .int .u64 m, .int .u64 n, .int .u64 most] w (Yes w) := by
  obtain ⟨a0, a1⟩ := a
  obtain ⟨b0, b1⟩ := b
  obtain ⟨M, hM⟩ : ∃ M, m / 2 = M := ⟨_, rfl⟩
  obtain ⟨N, hN⟩ : ∃ N, n / 2 = N := ⟨_, rfl⟩
  have hM1 : 0 ≤ M ∧ M ≤ 9223372036854775807 := by omega
  have hN1 : 0 ≤ N ∧ N ≤ 9223372036854775807 := by omega
  obtain ⟨mo, hmo, hmo1, hmo2⟩ := or_ge hM1
  obtain ⟨na, hna, hna1, hna2⟩ := clear_le hN1
  obtain ⟨mh, hmh⟩ : ∃ mh, M / 2 = mh := ⟨_, rfl⟩
  have hmt : M.tdiv 2 = mh := by rw [Int.tdiv_eq_ediv_of_nonneg hM1.1]; exact hmh
  have hwM : IntKind.u64.wrap M = M := IntWalk.u64_in _ (by omega)
  have hwN : IntKind.u64.wrap N = N := IntWalk.u64_in _ (by omega)
  have hwh : IntKind.u64.wrap mh = mh := IntWalk.u64_in _ (by omega)
  have hws : IntKind.u64.wrap (M + N) = M + N := IntWalk.u64_in _ (by omega)
  have wM : W64 M := ⟨hM1.1, by omega⟩
  have wN : W64 N := ⟨hN1.1, by omega⟩
  have wK : W64 most := ⟨k0, k1⟩
  have wS : W64 (M + N) := ⟨by omega, by omega⟩
  have wA2 : WD (mh, mo) := ⟨⟨by show 0 ≤ mh; omega, by show mh ≤ _; omega⟩, ⟨by show 0 ≤ mo; omega, hmo2⟩⟩
  have wB2 : WD (na, N) := ⟨⟨hna1, by show na ≤ _; omega⟩, wN⟩
  have iA2 : inD (mh, mo) M = true := by simp only [inD, Bool.and_eq_true, decide_eq_true_eq]; omega
  have iB2 : inD (na, N) N = true := by simp only [inD, Bool.and_eq_true, decide_eq_true_eq]; omega
  have c1 : Below w.heap.size w (w.alloc (.cells (VD (a0, a1)) 26)) := (Below.refl _ _).alloc (Nat.le_refl _) _
  have hz1 : (w.alloc (.cells (VD (a0, a1)) 26)).heap.size = w.heap.size + 1 := by simp
  have T0 : TwD w w.heap.size (w.heap.size + 1) (a0, a1) (b0, b1) ((w.alloc (.cells (VD (a0, a1)) 26)).alloc (.cells (VD (b0, b1)) 26)) := by
    refine ⟨BoxC.keep (P := fun _ => False) ⟨heap_alloc_new w _, rfl⟩ (StepC.alloc (fun _ _ => rfl) _) (fun h => h), ?_, Nat.le_refl _, by omega, c1.alloc c1.size _⟩
    rw [← hz1]; exact ⟨heap_alloc_new _ _, rfl⟩
  clear c1 hz1 hmh
  have hH1 := fun W => HB.has (a0, a1) M W ha wM
  have hH2 := fun W => HB.has (b0, b1) N W hb wN
  have hHT := Lib.hid T0
  clear T0
  go_enter Try.func5, Try.ntmps5
  go_wp2_with fail
  generalize (w.alloc (.cells (VD (a0, a1)) 26)).alloc (.cells (VD (b0, b1)) 26) = W1 at *
  generalize w.heap.size + 1 = G2 at *
  obtain ⟨G1, hG1⟩ : ∃ G, w.heap.size = G := ⟨_, rfl⟩
  have hHT2 : TwD w G1 G2 (a0, a1) (b0, b1) W1 := by rw [← hG1]; exact hHT.out
  rw [hG1]
  clear hG1 hHT
  refine (hH1 _).mono ?_
  rintro e w2 ⟨rfl, h2⟩
  have T2 := hHT2.next h2
  clear hH1 hHT2 h2
  cases ca : inD (a0, a1) M with
  | false =>
    have T3 := T2.put (mh, mo) (na, N)
    obtain ⟨t0, t1, t2, t3⟩ := T2.cells
    have f0 := T2.x1.free 0
    have f1 := T2.x1.free 1
    have f2 := T2.x2.free 0
    have f3 := T2.x2.free 1
    have hnn := T2.ne
    clear T2
    go_wp2_with fail
    generalize (((w2.setCell ⟨G1, 0, none⟩ (.int .u64 mh)).setCell ⟨G1, 1, none⟩ (.int .u64 mo)).setCell ⟨G2, 0, none⟩ (.int .u64 na)).setCell ⟨G2, 1, none⟩ (.int .u64 N) = W9 at *
    have T := T3
    clear T3 t0 t1 t2 t3 f0 f1 f2 f3 hnn
    obtain ⟨t0, t1, t2, t3⟩ := T.cells
    have hP1 := fun W => HB.has (mh, mo) M W wA2 wM
    have hP2 := fun W => HB.has (na, N) N W wB2 wN
    rw [iA2] at hP1
    rw [iB2] at hP2
    have hA := fun W => HB.add (mh, mo) (na, N) W wA2 wB2
    have hI := hold_sum wA2 wB2 iA2 iB2 hM1 hN1
    have wD : WD (adD (mh, mo) (na, N)) := ⟨addV_W wA2.1 wB2.1, addV_W wA2.2 wB2.2⟩
    generalize adD (mh, mo) (na, N) = sm at *
    have hP3 := fun W => HB.has sm (M + N) W wD wS
    rw [hI] at hP3
    go_wp2_with fail
    refine (hP1 _).mono ?_
    rintro e w5 ⟨rfl, h5⟩
    have T5 := T.next h5
    obtain ⟨v0, v1, v2, v3⟩ := T5.cells
    clear T t0 t1 t2 t3 h5
    go_wp2_with fail
    refine (hP2 _).mono ?_
    rintro e w6 ⟨rfl, h6⟩
    have T6 := T5.next h6
    obtain ⟨t0, t1, t2, t3⟩ := T6.cells
    clear T5 v0 v1 v2 v3 h6
    go_wp2_with fail
    refine (hA _).mono ?_
    rintro e w7 ⟨rfl, h7⟩
    have T7 := T6.next h7
    clear T6 t0 t1 t2 t3 h7
    go_wp2_with fail
    refine (hP3 _).mono ?_
    rintro e w8 ⟨rfl, h8⟩
    have T8 := T7.next h8
    obtain ⟨v0, v1, v2, v3⟩ := T8.cells
    clear T7 h8
    by_cases hk : M > most
    · go_wp2_with fail
      refine (bawake_any HB HS _).mono ?_
      rintro e w9 ⟨rfl, h9⟩
      have hE := Lib.hid (T8.next h9).below
      clear T8 h9 v0 v1 v2 v3
      go_wp2
      go_ret
      exact ⟨rfl, hE.out⟩
    · have hQ := fun W => HB.cap (mh, mo) most W wA2 wK
      have hJ := hold_cap iA2 hk
      have wE : WD (cpD (mh, mo) most) := ⟨cap_W wA2.1 wK, cap_W wA2.2 wK⟩
      generalize cpD (mh, mo) most = cp at *
      have hP4 := fun W => HB.has cp M W wE wM
      rw [hJ] at hP4
      go_wp2_with fail
      refine (hQ _).mono ?_
      rintro e w9 ⟨rfl, h9⟩
      have T9 := T8.next h9
      clear T8 h9 v0 v1 v2 v3
      go_wp2_with fail
      refine (hP4 _).mono ?_
      rintro e w10 ⟨rfl, h10⟩
      have T10 := T9.next h10
      clear T9 h10
      go_wp2_with fail
      refine (bawake_any HB HS _).mono ?_
      rintro e w11 ⟨rfl, h11⟩
      have hE := Lib.hid (T10.next h11).below
      clear T10 h11
      go_wp2
      go_ret
      exact ⟨rfl, hE.out⟩
  | true =>
    obtain ⟨t0, t1, t2, t3⟩ := T2.cells
    go_wp2_with fail
    refine (hH2 _).mono ?_
    rintro e w3 ⟨rfl, h3⟩
    have T3 := T2.next h3
    clear hH2 T2 h3 t0 t1 t2 t3
    rename World => w2
    have T2 := T3
    clear T3
    cases cb : inD (b0, b1) N with
    | false =>
      have T3 := T2.put (mh, mo) (na, N)
      obtain ⟨t0, t1, t2, t3⟩ := T2.cells
      have f0 := T2.x1.free 0
      have f1 := T2.x1.free 1
      have f2 := T2.x2.free 0
      have f3 := T2.x2.free 1
      have hnn := T2.ne
      clear T2
      go_wp2_with fail
      generalize (((w2.setCell ⟨G1, 0, none⟩ (.int .u64 mh)).setCell ⟨G1, 1, none⟩ (.int .u64 mo)).setCell ⟨G2, 0, none⟩ (.int .u64 na)).setCell ⟨G2, 1, none⟩ (.int .u64 N) = W9 at *
      have T := T3
      clear T3 t0 t1 t2 t3 f0 f1 f2 f3 hnn
      obtain ⟨t0, t1, t2, t3⟩ := T.cells
      have hP1 := fun W => HB.has (mh, mo) M W wA2 wM
      have hP2 := fun W => HB.has (na, N) N W wB2 wN
      rw [iA2] at hP1
      rw [iB2] at hP2
      have hA := fun W => HB.add (mh, mo) (na, N) W wA2 wB2
      have hI := hold_sum wA2 wB2 iA2 iB2 hM1 hN1
      have wD : WD (adD (mh, mo) (na, N)) := ⟨addV_W wA2.1 wB2.1, addV_W wA2.2 wB2.2⟩
      generalize adD (mh, mo) (na, N) = sm at *
      have hP3 := fun W => HB.has sm (M + N) W wD wS
      rw [hI] at hP3
      go_wp2_with fail
      refine (hP1 _).mono ?_
      rintro e w5 ⟨rfl, h5⟩
      have T5 := T.next h5
      obtain ⟨v0, v1, v2, v3⟩ := T5.cells
      clear T t0 t1 t2 t3 h5
      go_wp2_with fail
      refine (hP2 _).mono ?_
      rintro e w6 ⟨rfl, h6⟩
      have T6 := T5.next h6
      obtain ⟨t0, t1, t2, t3⟩ := T6.cells
      clear T5 v0 v1 v2 v3 h6
      go_wp2_with fail
      refine (hA _).mono ?_
      rintro e w7 ⟨rfl, h7⟩
      have T7 := T6.next h7
      clear T6 t0 t1 t2 t3 h7
      go_wp2_with fail
      refine (hP3 _).mono ?_
      rintro e w8 ⟨rfl, h8⟩
      have T8 := T7.next h8
      obtain ⟨v0, v1, v2, v3⟩ := T8.cells
      clear T7 h8
      by_cases hk : M > most
      · go_wp2_with fail
        refine (bawake_any HB HS _).mono ?_
        rintro e w9 ⟨rfl, h9⟩
        have hE := Lib.hid (T8.next h9).below
        clear T8 h9 v0 v1 v2 v3
        go_wp2
        go_ret
        exact ⟨rfl, hE.out⟩
      · have hQ := fun W => HB.cap (mh, mo) most W wA2 wK
        have hJ := hold_cap iA2 hk
        have wE : WD (cpD (mh, mo) most) := ⟨cap_W wA2.1 wK, cap_W wA2.2 wK⟩
        generalize cpD (mh, mo) most = cp at *
        have hP4 := fun W => HB.has cp M W wE wM
        rw [hJ] at hP4
        go_wp2_with fail
        refine (hQ _).mono ?_
        rintro e w9 ⟨rfl, h9⟩
        have T9 := T8.next h9
        clear T8 h9 v0 v1 v2 v3
        go_wp2_with fail
        refine (hP4 _).mono ?_
        rintro e w10 ⟨rfl, h10⟩
        have T10 := T9.next h10
        clear T9 h10
        go_wp2_with fail
        refine (bawake_any HB HS _).mono ?_
        rintro e w11 ⟨rfl, h11⟩
        have hE := Lib.hid (T10.next h11).below
        clear T10 h11
        go_wp2
        go_ret
        exact ⟨rfl, hE.out⟩
    | true =>
      have T := T2
      clear T2
      obtain ⟨t0, t1, t2, t3⟩ := T.cells
      have hP1 := fun W => HB.has (a0, a1) M W ha wM
      have hP2 := fun W => HB.has (b0, b1) N W hb wN
      rw [ca] at hP1
      rw [cb] at hP2
      have hA := fun W => HB.add (a0, a1) (b0, b1) W ha hb
      have hI := hold_sum ha hb ca cb hM1 hN1
      have wD : WD (adD (a0, a1) (b0, b1)) := ⟨addV_W ha.1 hb.1, addV_W ha.2 hb.2⟩
      generalize adD (a0, a1) (b0, b1) = sm at *
      have hP3 := fun W => HB.has sm (M + N) W wD wS
      rw [hI] at hP3
      go_wp2_with fail
      refine (hP1 _).mono ?_
      rintro e w5 ⟨rfl, h5⟩
      have T5 := T.next h5
      obtain ⟨v0, v1, v2, v3⟩ := T5.cells
      clear T t0 t1 t2 t3 h5
      go_wp2_with fail
      refine (hP2 _).mono ?_
      rintro e w6 ⟨rfl, h6⟩
      have T6 := T5.next h6
      obtain ⟨t0, t1, t2, t3⟩ := T6.cells
      clear T5 v0 v1 v2 v3 h6
      go_wp2_with fail
      refine (hA _).mono ?_
      rintro e w7 ⟨rfl, h7⟩
      have T7 := T6.next h7
      clear T6 t0 t1 t2 t3 h7
      go_wp2_with fail
      refine (hP3 _).mono ?_
      rintro e w8 ⟨rfl, h8⟩
      have T8 := T7.next h8
      obtain ⟨v0, v1, v2, v3⟩ := T8.cells
      clear T7 h8
      by_cases hk : M > most
      · go_wp2_with fail
        refine (bawake_any HB HS _).mono ?_
        rintro e w9 ⟨rfl, h9⟩
        have hE := Lib.hid (T8.next h9).below
        clear T8 h9 v0 v1 v2 v3
        go_wp2
        go_ret
        exact ⟨rfl, hE.out⟩
      · have hQ := fun W => HB.cap (a0, a1) most W ha wK
        have hJ := hold_cap ca hk
        have wE : WD (cpD (a0, a1) most) := ⟨cap_W ha.1 wK, cap_W ha.2 wK⟩
        generalize cpD (a0, a1) most = cp at *
        have hP4 := fun W => HB.has cp M W wE wM
        rw [hJ] at hP4
        go_wp2_with fail
        refine (hQ _).mono ?_
        rintro e w9 ⟨rfl, h9⟩
        have T9 := T8.next h9
        clear T8 h9 v0 v1 v2 v3
        go_wp2_with fail
        refine (hP4 _).mono ?_
        rintro e w10 ⟨rfl, h10⟩
        have T10 := T9.next h10
        clear T9 h10
        go_wp2_with fail
        refine (bawake_any HB HS _).mono ?_
        rintro e w11 ⟨rfl, h11⟩
        have hE := Lib.hid (T10.next h11).below
        clear T10 h11
        go_wp2
        go_ret
        exact ⟨rfl, hE.out⟩
end Go.Proofs.Ytbdafhephmoedaa
