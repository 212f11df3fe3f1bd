/- The statements about package arena: ArenaCheck. Conditions: the program's arena keeps its contracts (ProgA). -/
import Derived.Test.YtfcnmbahcdpcaaaJtwo
import Derived.Test.YtfcnmbahcdpcaaaTlist
namespace Go.Proofs.Ytfcnmbahcdpcaaa
open Go.ChangeShapes Go.WideShapes Go.ChangeAt Go.RowKit
set_option linter.unusedVariables false
set_option linter.unusedSimpArgs false
set_option maxRecDepth 100000

/-- Classes that came in. -/
def ArgC (w : World) (A : Option Addr) (n c : Nat) : Prop := ∃ L, RdG kC w A n c L ∧ ∀ x ∈ L, I64 x.1 ∧ I64 x.2
theorem bd4 {L : List (Int × Int)} (h : ∀ x ∈ L, I64 x.1 ∧ I64 x.2) : ∀ x ∈ L, -9223372036854775808 ≤ x.1 ∧ x.1 ≤ 9223372036854775807 ∧ -9223372036854775808 ≤ x.2 ∧ x.2 ≤ 9223372036854775807 := fun x hx => ⟨(h x hx).1.1, (h x hx).1.2, (h x hx).2.1, (h x hx).2.2⟩
theorem Since.put {w0 W : World} {col : Col} (h : Since w0 col W) {a : Addr} (ha : w0.heap.size ≤ a.block) (u : Value) : Since w0 col (W.setCell a u) := ⟨h.below.setCell ha u, h.elder, h.tidy.size (by simp [World.setCell])⟩
theorem Since.grow {w0 W W' : World} {col : Col} {row : Option Nat} (h : Since w0 col W) (hg : W.grownBy W' row) (hr : ∀ q, row = some q → w0.heap.size ≤ q) : Since w0 col W' := ⟨h.below.grown hg h.below.size hr, h.elder, h.tidy.size hg.size⟩
set_option maxHeartbeats 4000000 in
theorem arenaCheck_walk {PA : Rep} (HP : ProgA PA) (A0 : Option Addr) (m0 d0 : Nat) (A : Option Addr) (m d : Nat) (at_ n size : Int) (w : World) (hC : ArgC w A0 m0 d0) (hA : RdI w A m d) (a0 : -9223372036854775808 ≤ at_) (a1 : at_ ≤ 9223372036854775807) (n0 : -9223372036854775808 ≤ n) (n1 : n ≤ 9223372036854775807) (s0 : -9223372036854775808 ≤ size) (s1 : size ≤ 9223372036854775807) :
    Calls Try.prog 3 #[.slice A0 m0 d0, .slice A m d, .int .i64 at_, .int .i64 n, .int .i64 size] w (Yes w) := by
  obtain ⟨L0, hC, hC64⟩ := hC
  have hm0 := hC.len
  have hcap0 := hC.cap
  have hmax0 := hC.max
  by_cases h12 : 12 < m0
  · have h12i : (12 : Int) < (m0 : Int) := by omega
    go_enter Try.func3, Try.ntmps3
    go_wp2_with fail
    refine (awake_any HP _).mono ?_
    rintro e w2 ⟨rfl, hb2⟩
    go_wp2
    go_ret
    exact ⟨rfl, hb2⟩
  have h12i : ¬ (12 : Int) < (m0 : Int) := by omega
  obtain ⟨X, hXm, hX⟩ := mask_any (at_ / 2) 7 (by omega)
  have hX' : bits .and .i64 (at_ / 2) 7 = (X : Int) := hX
  obtain ⟨Z1, hZ1m, hZ1⟩ := mask_any size 255 (by omega)
  have hZ1' : bits .and .i64 size 255 = (Z1 : Int) := hZ1
  obtain ⟨Z2, hZ2m, hZ2⟩ := mask_any size 31 (by omega)
  have hZ2' : bits .and .i64 size 31 = (Z2 : Int) := hZ2
  obtain ⟨Y, hYm, hY⟩ := mask_any at_ 1 (by omega)
  have hY' : bits .and .i64 at_ 1 = (Y : Int) := hY
  clear hX hZ1 hZ2 hY
  go_enter Try.func3, Try.ntmps3
  go_wp2_with fail
  refine (new_any _ _ _ _).mono ?_
  rintro e w1 ⟨rfl, rfl⟩
  have hD := Dk.new hA
  have hge := hD.ge
  have hlow := hD.low
  go_wp2_with fail
  refine (classes_dk hD).mono ?_
  rintro e W1 ⟨A1, m1, c1, L, rfl, hR, hnew, hM, _, hg⟩
  have hml := hR.len
  have hm4 := hM.n4
  have hm1 := hM.n1
  have S1 : Since w (fun _ => 0) W1 := ⟨hlow.grown hg hlow.size (fun q e => by injection e with e; omega), fun _ _ => rfl, fun _ _ => rfl⟩
  have R1 : RdK0 kC (fun _ => 0) W1 A1 m1 c1 L := ⟨hR, fun _ _ _ _ _ => rfl⟩
  clear hD hA hge hlow hg hR hnew
  go_wp2_with fail
  refine (HP.new (k := 16) S1.tidy (by omega) R1.rd (by omega) hM.bd).mono ?_
  rintro e W2 (⟨_, ga, rfl, hd⟩ | ⟨h0, _⟩)
  rotate_left
  · exact absurd hM.ok h0
  obtain ⟨col2, p2, s2⟩ := hd
  have R2 := R1.keep s2 (rng0 (by omega))
  have A2 : AtP PA w col2 W2 16 ga (newA L) := ⟨S1.step s2 (rng0 (by omega)), p2⟩
  clear R1 S1 s2 p2
  have hRI : RdG kI (W2.alloc (.cells #[.int .i64 size, .int .i64 (Z1 : Int), .int .i64 (Z2 : Int)] 3)) (some ⟨W2.heap.size, 0, none⟩) 3 3 [size, (Z1 : Int), (Z2 : Int)] := RdG.lit kI W2 [size, (Z1 : Int), (Z2 : Int)] rfl (by simp [maxLen]) _
  have hRI0 : RdK0 kI col2 (W2.alloc (.cells #[.int .i64 size, .int .i64 (Z1 : Int), .int .i64 (Z2 : Int)] 3)) (some ⟨W2.heap.size, 0, none⟩) 3 3 [size, (Z1 : Int), (Z2 : Int)] := ⟨hRI, fun _ b o sp e => by injection e with e; injection e with e; subst e; exact A2.tidy _ (Nat.le_refl _)⟩
  have b2 : Below W2.heap.size W2 (W2.alloc (.cells #[.int .i64 size, .int .i64 (Z1 : Int), .int .i64 (Z2 : Int)] 3)) := (Below.refl _ _).alloc (Nat.le_refl _) _
  have A3 := A2.below HP b2
  have R3 := R2.keep (P := fun _ => False) (StepC.below A2.tidy b2) (fun h => h)
  have hzs : ∀ z ∈ [size, (Z1 : Int), (Z2 : Int)], I64 z := by
    intro z hz
    simp at hz
    simp only [I64]
    rcases hz with rfl | rfl | rfl <;> omega
  clear A2 R2 hRI b2
  go_wp2
  generalize W2.heap.size = bI at *
  go_loopw [54] (fun i wr => ∃ q : Nat, q ≤ 3 ∧ i = .int .i64 q ∧ AtP PA w col2 wr 16 ga (newA L) ∧ RdK0 kC col2 wr A1 m1 c1 L ∧ RdK0 kI col2 wr (some ⟨bI, 0, none⟩) 3 3 [size, (Z1 : Int), (Z2 : Int)]) (fun i _ => 3 - (intOf i).toNat)
  case atStart => exact ⟨0, by omega, rfl, A3, R3, hRI0⟩
  case round =>
    clear A3 R3 hRI0
    obtain ⟨q, hq, rfl, AA, rowR, rowI⟩ := hrel
    by_cases hlt : q < 3
    · obtain ⟨b, o, z, e, _, hz, _, c0⟩ := rowI.rd.atI hlt
      injection e with e; injection e with e1 e2; subst e1 e2
      have hzz := hzs z hz
      have hqi : (q : Int) < 3 := by omega
      rw [Nat.zero_add] at c0
      have hz64 := hzz
      simp only [I64] at hzz
      go_wp2_with fail
      refine (HP.fit AA.pa AA.tidy z hz64).mono ?_
      rintro e w5 ⟨rfl, hb5⟩
      have A5 := AA.below HP hb5
      have R5 := rowR.keep (P := fun _ => False) (StepC.below AA.tidy hb5) (fun h => h)
      have I5 := rowI.keep (P := fun _ => False) (StepC.below AA.tidy hb5) (fun h => h)
      clear AA rowR rowI hb5 c0
      go_wp2_with fail
      refine (arFit _ _ _ L z w5 R5.rd (by omega) hzz (fun y hy => by have := (hM.bd y hy).1; simp only [I64] at this; exact this)).mono ?_
      rintro e w6 ⟨rfl, hb6⟩
      have A6 := A5.below HP hb6
      have R6 := R5.keep (P := fun _ => False) (StepC.below A5.tidy hb6) (fun h => h)
      have I6 := I5.keep (P := fun _ => False) (StepC.below A5.tidy hb6) (fun h => h)
      rw [show (newA L).L = L from rfl]
      clear A5 R5 I5 hb6 hz hzs hz64
      generalize (fitR (fitP L z)).1 = f1 at *
      generalize (fitR (fitP L z)).2 = f2 at *
      go_wp2
      go_roundw
      case rel => exact ⟨q + 1, by omega, by go_num, A6, R6, I6⟩
      case measure => (simp [intOf] <;> omega)
    · have S4 := AA.since
      have R4 := rowR.rd
      have ht4 := S4.tidy
      clear AA rowR rowI hzs
      have b5 : Below wr.heap.size wr (wr.alloc (.cells #[] 37)) := (Below.refl _ _).alloc (Nat.le_refl _) _
      have S5 := S4.below' b5
      have R5 := R4.below b5
      have O5 : OwnK kC (wr.alloc (.cells #[] 37)) (.slice (some ⟨wr.heap.size, 0, none⟩) 0 0) [] := OwnK.empty kC rfl
      have hby : ([] : List (Int × Int)).length + m1 ≤ 1000000000 := by simp; omega
      have hl0 : ([] ++ L).length = m1 := by simp [hml]
      have hws := S4.below.size
      clear S4 R4 b5
      have hm1p : 0 < m1 := by omega
      obtain ⟨j, hj, hjm⟩ : ∃ j : Nat, (X : Int) % (m1 : Int) = (j : Int) ∧ j < m1 := ⟨X % m1, by simp, Nat.mod_lt _ hm1p⟩
      have hji : (j : Int) < (m1 : Int) := by omega
      obtain ⟨⟨p, q'⟩, hpq⟩ : ∃ x, L[j]? = some x := ⟨_, List.getElem?_eq_getElem (by omega)⟩
      have hLL : ([] ++ L)[j]? = some (p, q') := by simpa using hpq
      have hM64 := hM.bd
      have hpq64 := hM64 _ (List.mem_of_getElem? hpq)
      have hS1 : ∀ x ∈ L.set j (n, q'), I64 x.1 ∧ I64 x.2 := fun x hx => by
        rcases List.mem_or_eq_of_mem_set hx with h | rfl
        · exact hM64 x h
        · exact ⟨⟨n0, n1⟩, hpq64.2⟩
      have hS2 : ∀ x ∈ L.set j (p, n), I64 x.1 ∧ I64 x.2 := fun x hx => by
        rcases List.mem_or_eq_of_mem_set hx with h | rfl
        · exact hM64 x h
        · exact ⟨hpq64.1, ⟨n0, n1⟩⟩
      have HS1 := Lib.hid hS1
      have HS2 := Lib.hid hS2
      have HLL := Lib.hid hLL
      clear hS1 hS2 hLL hpq hpq64 hM64
      rcases Nat.eq_zero_or_pos Y with hY0 | hY0
      focus
        subst hY0
        go_wp2_with (at_builtin; refine wpList_appK kC rfl (.tmp 79) (.tmp 80) rfl (.slice (some ⟨wr.heap.size, 0, none⟩) 0 0) [] rfl A1 m1 c1 L rfl O5 R5 hby ?_; intro v6 W6 O6 G6 hat6; obtain ⟨A6, c6, rfl, r6, _⟩ := O6.form hl0; obtain ⟨g6, rfl, hg6⟩ := O6.head hm1p; have k0 := O6.cell (i := 0) HLL.out rfl; have f0 := O6.free (j * kC.k + 0); have hc6 := r6.cap; have hx6 := r6.max; simp only [show kC.k = 2 from rfl, Nat.add_zero] at k0 f0)
        have hg6w : wr.heap.size ≤ g6 := by
          rcases hat6 with h | h
          · simp [Value.ownBlock] at h; omega
          · simp [Value.ownBlock] at h; omega
        have S6 := S5.grow G6 (fun q hq => by simp [Value.ownBlock] at hq; omega)
        have S7 := S6.put (a := ⟨g6, j * 2, none⟩) (by show w.heap.size ≤ g6; omega) (.int .i64 n)
        have O7 := (O6.store HLL.out (i := 0) (a' := (n, q')) (u := .int .i64 n) (by show 0 < 2; omega) rfl).reads
        rw [List.nil_append] at O7
        have R7 : RdK0 kC col2 (W6.setCell ⟨g6, j * 2, none⟩ (.int .i64 n)) (some ⟨g6, 0, none⟩) m1 c6 (L.set j (n, q')) := ⟨O7, fun _ b o sp e => by injection e with e; injection e with e; subst e; exact ht4 _ hg6w⟩
        generalize W6.setCell ⟨g6, j * 2, none⟩ (.int .i64 n) = W7 at *
        have HS7 := HS1.out
        generalize L.set j (n, q') = L7 at *
        clear O6 O7 S6 G6 hat6 r6 k0 f0
      rotate_left
      focus
        have hY1 : Y = 1 := by omega
        subst hY1
        go_wp2_with (at_builtin; refine wpList_appK kC rfl (.tmp 79) (.tmp 80) rfl (.slice (some ⟨wr.heap.size, 0, none⟩) 0 0) [] rfl A1 m1 c1 L rfl O5 R5 hby ?_; intro v6 W6 O6 G6 hat6; obtain ⟨A6, c6, rfl, r6, _⟩ := O6.form hl0; obtain ⟨g6, rfl, hg6⟩ := O6.head hm1p; have k0 := O6.cell (i := 1) HLL.out rfl; have f0 := O6.free (j * kC.k + 1); have hc6 := r6.cap; have hx6 := r6.max; simp only [show kC.k = 2 from rfl, Nat.add_zero] at k0 f0)
        have hg6w : wr.heap.size ≤ g6 := by
          rcases hat6 with h | h
          · simp [Value.ownBlock] at h; omega
          · simp [Value.ownBlock] at h; omega
        have S6 := S5.grow G6 (fun q hq => by simp [Value.ownBlock] at hq; omega)
        have S7 := S6.put (a := ⟨g6, j * 2 + 1, none⟩) (by show w.heap.size ≤ g6; omega) (.int .i64 n)
        have O7 := (O6.store HLL.out (i := 1) (a' := (p, n)) (u := .int .i64 n) (by show 1 < 2; omega) rfl).reads
        rw [List.nil_append] at O7
        have R7 : RdK0 kC col2 (W6.setCell ⟨g6, j * 2 + 1, none⟩ (.int .i64 n)) (some ⟨g6, 0, none⟩) m1 c6 (L.set j (p, n)) := ⟨O7, fun _ b o sp e => by injection e with e; injection e with e; subst e; exact ht4 _ hg6w⟩
        generalize W6.setCell ⟨g6, j * 2 + 1, none⟩ (.int .i64 n) = W7 at *
        have HS7 := HS2.out
        generalize L.set j (p, n) = L7 at *
        clear O6 O7 S6 G6 hat6 r6 k0 f0
      all_goals
        have hm7 : m1 ≤ 1000000 := by omega
        have hm00 : m0 ≤ 1000000 := by omega
        clear HS1 HS2 HLL O5 R5 S5 ht4
        refine (HP.nilAlloc _ 1 (by simp [I64])).mono ?_
        rintro e W8 ⟨rfl, hb8⟩
        have b9 := below_then hb8 ((Below.refl W8.heap.size W8).alloc (Nat.le_refl _) (.cells #[.int .i64 0, .int .i64 0, .int .i64 0] 40))
        have S9 := S7.below' b9
        have R9 := R7.keep (P := fun _ => False) (StepC.below S7.tidy b9) (fun h => h)
        have C9 := hC.below S9.below
        clear S7 R7 hb8 b9
        go_wp2_with fail
        refine (HP.new (k := 16) S9.tidy (by omega) C9 hm00 hC64).mono ?_
        rintro e WA (⟨h0, gb, rfl, colA, _, sA⟩ | ⟨h0, rfl, hbA⟩)
        · have SA := S9.step sA (rng0 (by omega))
          have rowA := R9.keep sA (rng0 (by omega))
          have CA := hC.below SA.below
          clear S9 R9 C9 sA
          go_wp2_with fail
          refine (HP.check CA hm00 hC64).mono ?_
          rintro e WB ⟨rfl, hbB⟩
          rw [h0]
          have SB := SA.below' hbB
          have rowB := rowA.keep (P := fun _ => False) (StepC.below SA.tidy hbB) (fun h => h)
          have CB := hC.below SB.below
          clear SA rowA CA hbB
          go_wp2_with fail
          refine (arClasses _ _ _ L0 WB CB hm00 (bd4 hC64)).mono ?_
          rintro e WC ⟨rfl, hbC⟩
          rw [h0]
          have SC := SB.below' hbC
          have rowC := rowB.keep (P := fun _ => False) (StepC.below SB.tidy hbC) (fun h => h)
          clear SB rowB CB hbC
          go_wp2_with fail
          refine (HP.check rowC.rd hm7 HS7).mono ?_
          rintro e WD ⟨rfl, hbD⟩
          have SD := SC.below' hbD
          have rowD := rowC.keep (P := fun _ => False) (StepC.below SC.tidy hbD) (fun h => h)
          clear SC rowC hbD
          go_wp2_with fail
          refine (arClasses _ _ _ L7 WD rowD.rd hm7 (bd4 HS7)).mono ?_
          rintro e WE ⟨rfl, hbE⟩
          have SE := SD.below' hbE
          have CE := hC.below SE.below
          clear SD rowD hbE
          generalize clsE L7 = E7 at *
          go_wp2_with fail
          refine (arClasses _ _ _ L0 WE CE hm00 (bd4 hC64)).mono ?_
          rintro e WF ⟨rfl, hbF⟩
          rw [h0]
          have SF := SE.below' hbF
          clear SE CE hbF
          go_wp2_with fail
          refine (HP.nilFree _ (0, 0, 0) (by simp [Hd64, I64])).mono ?_
          rintro e WG ⟨rfl, hbG⟩
          have SG := SF.below' hbG
          clear SF hbG
          go_wp2_with fail
          refine (HP.nilUsage _).mono ?_
          rintro e WH ⟨AH, cH, rfl, hbH⟩
          have hL1 := fun w => usage_live AH 0 cH 0 0 w
          have SH := SG.below' hbH
          clear SG hbH
          go_wp2_with fail
          refine (awake_any HP _).mono ?_
          rintro e WI ⟨rfl, hbI⟩
          have SI := SH.below' hbI
          have hb := SI.below
          clear SH SI hbI
          go_wp2
          go_ret
          exact ⟨rfl, hb⟩
        · have hv : (clsE L0 != 0) = true := bne_iff_ne.2 h0
          have SA := S9.below' hbA
          have rowA := R9.keep (P := fun _ => False) (StepC.below S9.tidy hbA) (fun h => h)
          have CA := hC.below SA.below
          clear S9 R9 C9 hbA
          go_wp2_with fail
          refine (HP.check CA hm00 hC64).mono ?_
          rintro e WB ⟨rfl, hbB⟩
          have SB := SA.below' hbB
          have rowB := rowA.keep (P := fun _ => False) (StepC.below SA.tidy hbB) (fun h => h)
          have CB := hC.below SB.below
          clear SA rowA CA hbB
          go_wp2_with fail
          refine (arClasses _ _ _ L0 WB CB hm00 (bd4 hC64)).mono ?_
          rintro e WC ⟨rfl, hbC⟩
          have SC := SB.below' hbC
          have rowC := rowB.keep (P := fun _ => False) (StepC.below SB.tidy hbC) (fun h => h)
          clear SB rowB CB hbC
          go_wp2_with fail
          refine (HP.check rowC.rd hm7 HS7).mono ?_
          rintro e WD ⟨rfl, hbD⟩
          have SD := SC.below' hbD
          have rowD := rowC.keep (P := fun _ => False) (StepC.below SC.tidy hbD) (fun h => h)
          clear SC rowC hbD
          go_wp2_with fail
          refine (arClasses _ _ _ L7 WD rowD.rd hm7 (bd4 HS7)).mono ?_
          rintro e WE ⟨rfl, hbE⟩
          have SE := SD.below' hbE
          have CE := hC.below SE.below
          clear SD rowD hbE
          generalize clsE L7 = E7 at *
          go_wp2_with fail
          refine (arClasses _ _ _ L0 WE CE hm00 (bd4 hC64)).mono ?_
          rintro e WF ⟨rfl, hbF⟩
          have SF := SE.below' hbF
          clear SE CE hbF
          generalize clsE L0 = E0 at *
          go_wp2_with fail
          refine (HP.nilFree _ (0, 0, 0) (by simp [Hd64, I64])).mono ?_
          rintro e WG ⟨rfl, hbG⟩
          have SG := SF.below' hbG
          clear SF hbG
          go_wp2_with fail
          refine (HP.nilUsage _).mono ?_
          rintro e WH ⟨AH, cH, rfl, hbH⟩
          have hL1 := fun w => usage_live AH 0 cH 0 0 w
          have SH := SG.below' hbH
          clear SG hbH
          go_wp2_with fail
          refine (awake_any HP _).mono ?_
          rintro e WI ⟨rfl, hbI⟩
          have SI := SH.below' hbI
          have hb := SI.below
          clear SH SI hbI
          go_wp2
          go_ret
          exact ⟨rfl, hb⟩
end Go.Proofs.Ytfcnmbahcdpcaaa
