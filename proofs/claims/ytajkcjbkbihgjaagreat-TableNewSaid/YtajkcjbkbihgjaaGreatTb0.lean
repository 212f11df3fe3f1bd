/- The program's tables are made: what New of the tables, and of what they are built of, returns, whatever package-level variables hold. Conditions: none beyond those typed. -/
import Derived.Test.YtajkcjbkbihgjaaGreatZ05
import Derived.Test.YtajkcjbkbihgjaaGreatZ04
import Derived.Test.YtajkcjbkbihgjaaGreatZ02
namespace Go.Proofs.YtajkcjbkbihgjaaGreat
open Go.ChangeShapes Go.WideShapes Go.ChangeAt Go.RowKit
set_option linter.unusedVariables false
set_option linter.unusedSimpArgs false
set_option maxRecDepth 100000

/-- Places, elements: as they lie in memory. -/
def kPl0 : Kind (Bool × Int × Int) where
  ty := 175
  sl := 122
  k := 3
  by_ := 24
  zero := .agg #[.bool false, .int .i64 0, .int .i64 0]
  enc := fun r => [.bool r.1, .int .i64 r.2.1, .int .i64 r.2.2]
  pos := by omega
  len := fun _ => rfl
  one := fun a u hu => by simp at hu; rcases hu with rfl | rfl | rfl <;> rfl
  under := Tryz.underlying122
  info := by kernel_rfl
  zk := rfl
  small := by omega
def kSx0 : Kind (ByteArray × Int) where
  ty := 157
  sl := 90
  k := 2
  by_ := 24
  zero := .agg #[.string ⟨#[]⟩, .int .u64 0]
  enc := fun r => [.string r.1, .int .u64 r.2]
  pos := by omega
  len := fun _ => rfl
  one := fun a u hu => by simp at hu; rcases hu with rfl | rfl <;> rfl
  under := Tryz.underlying90
  info := by kernel_rfl
  zk := rfl
  small := by omega
/-- A new object, or nil and an error; elder blocks stand. -/
def New0 (er : Int) (w : World) (e : Ending) (w' : World) : Prop :=
  (er = 0 ∧ ∃ g, e = .returned (.tuple #[.pointer (some ⟨g, 0, none⟩), .int .i64 0]) ∧ Below w.heap.size w w') ∨ (er ≠ 0 ∧ e = .returned (.tuple #[.pointer none, .int .i64 er]) ∧ Below w.heap.size w w')
theorem lnewb0 (w : World) (n : Int) (hn : 1 ≤ n ∧ n ≤ 8192) : Calls Tryz.prog 57 #[.int .i64 n] w fun e w' => ∃ g, e = .returned (.tuple #[.pointer (some ⟨g, 0, none⟩), .int .i64 0]) ∧ Below w.heap.size w w' := by
  have h1 : ¬ n < 1 := by omega
  have h2 : ¬ 8192 < n := by omega
  have HB := Lib.hid (fun a b => ((Below.refl w.heap.size w).alloc (Nat.le_refl _) a).alloc (show w.heap.size ≤ (w.alloc a).heap.size by simp) b)
  go_enter Tryz.func57, Tryz.ntmps57
  go_wp2
  go_ret2
  exact ⟨⟨w.heap.size + 1, rfl⟩, HB.out _ _⟩
theorem rnew0 (w : World) (n : Nat) (hn : 1 ≤ n ∧ n ≤ 64) : Calls Tryz.prog 51 #[.int .i64 (n : Int)] w fun e w' => ∃ g, e = .returned (.tuple #[.pointer (some ⟨g, 0, none⟩), .int .i64 0]) ∧ Below w.heap.size w w' := by
  have hC := lnewb0 w (n : Int) (by omega)
  obtain ⟨CS, hmk, _⟩ := make_any kPl0 (n := n) (by omega) (z := (false, 0, 0)) rfl
  have hmk' : ∀ W : World, (Instr.makeSlice 122 (.int .i64 (n : Int)) (.int .i64 (n : Int))).run Tryz.prog W = .ok (.slice (some ⟨W.heap.size, 0, none⟩) n n) (W.alloc (.cells CS 175)) := hmk
  clear hmk
  go_enter Tryz.func51, Tryz.ntmps51
  go_wp2_with fail
  refine hC.mono ?_
  rintro e w1 ⟨g, rfl, b1⟩
  have HB := Lib.hid (fun a b => (b1.alloc b1.size a).alloc (show w.heap.size ≤ (w1.alloc a).heap.size by have := b1.size; simp; omega) b)
  clear hC b1
  go_wp2
  go_ret2
  exact ⟨w1.heap.size + 1, rfl, HB.out _ _⟩
/-- An index is made. -/
theorem newi0 (w : World) (B n : Nat) (T : List Int) (hn : 1 ≤ n ∧ n ≤ 64) (hR : RdU w (some ⟨B, 0, none⟩) 16 16 T) : Calls Tryz.prog 52 #[.int .i64 (n : Int), .slice (some ⟨B, 0, none⟩) 16 16, .int .u64 0] w fun e w' => ∃ g, e = .returned (.tuple #[.pointer (some ⟨g, 0, none⟩), .int .i64 0]) ∧ Below w.heap.size w w' := by
  have hE2 : mapE (n : Int) 16 = 0 := by unfold mapE; rw [if_neg (by omega)]; decide
  have hU : RdU0 (fun _ => 0) w (some ⟨B, 0, none⟩) 16 16 T := ⟨hR, fun _ b o sp e => rfl⟩
  refine (newi_any (k := 48) (Since.start w).tidy (by omega) hU (n : Int) 0 (by omega) (by omega)).mono ?_
  rintro e w5 (⟨_, gm, rfl, c5, _, s5⟩ | ⟨h0, _⟩)
  · exact ⟨gm, rfl, ((Since.start w).step s5 (rng0 (by omega))).below⟩
  · exact absurd hE2 h0
theorem neww0 (w : World) (B n : Nat) (T : List Int) (hn : 1 ≤ n ∧ n ≤ 64) (hR : RdU w (some ⟨B, 0, none⟩) 16 16 T) : Calls Tryz.prog 47 #[.int .i64 (n : Int), .slice (some ⟨B, 0, none⟩) 16 16, .int .u64 0] w fun e w' => ∃ g, e = .returned (.tuple #[.pointer (some ⟨g, 0, none⟩), .int .i64 0]) ∧ Below w.heap.size w w' := by
  have hE2 : mapE (n : Int) 16 = 0 := by unfold mapE; rw [if_neg (by omega)]; decide
  have hU : RdU0 (fun _ => 0) w (some ⟨B, 0, none⟩) 16 16 T := ⟨hR, fun _ b o sp e => rfl⟩
  refine (neww_any (k := 48) (Since.start w).tidy (by omega) hU (n : Int) 0 (by omega) (by omega)).mono ?_
  rintro e w5 (⟨_, gm, rfl, c5, _, s5⟩ | ⟨h0, _⟩)
  · exact ⟨gm, rfl, ((Since.start w).step s5 (rng0 (by omega))).below⟩
  · exact absurd hE2 h0
/-- Stores into a block of the call's own. -/
theorem below_set3 {lo G : Nat} {w W : World} (h : Below lo w W) (hG : lo ≤ G) (a b c : Value) : Below lo w (((W.setCell ⟨G, 0, none⟩ a).setCell ⟨G, 1, none⟩ b).setCell ⟨G, 2, none⟩ c) :=
  ((h.setCell (p := ⟨G, 0, none⟩) hG a).setCell (p := ⟨G, 1, none⟩) hG b).setCell (p := ⟨G, 2, none⟩) hG c
set_option maxHeartbeats 2000000 in
theorem soEmpty0 (w : World) (n : Nat) (hn : 1 ≤ n ∧ n ≤ 64) : Calls Tryz.prog 46 #[.int .i64 (n : Int)] w fun e w' => ∃ gr gm bE, e = .returned (.agg #[.pointer (some ⟨gr, 0, none⟩), .pointer (some ⟨gm, 0, none⟩), .slice (some ⟨bE, 0, none⟩) n n]) ∧ Below w.heap.size w w' := by
  have s1 := StepC.new (Since.start w).tidy (.cells #[.pointer none, .pointer none, .slice none 0 0] 92) 2 (fun _ => False)
  have X1 : BoxC (dye (fun _ => 0) (some w.heap.size) 2) (w.alloc (.cells #[.pointer none, .pointer none, .slice none 0 0] 92)) w.heap.size 2 #[.pointer none, .pointer none, .slice none 0 0] 92 := ⟨heap_alloc_new w _, dye_of⟩
  have S1 := (Since.start w).step s1 (fun h => h)
  have hC := rnew0 (w.alloc (.cells #[.pointer none, .pointer none, .slice none 0 0] 92)) n hn
  obtain ⟨cA, hcA⟩ : ∃ cA, cA = dye (fun _ => 0) (some w.heap.size) 2 := ⟨_, rfl⟩
  obtain ⟨W1, hW1⟩ : ∃ W1, W1 = w.alloc (.cells #[.pointer none, .pointer none, .slice none 0 0] 92) := ⟨_, rfl⟩
  obtain ⟨G, hG⟩ : ∃ G, w.heap.size = G := ⟨_, rfl⟩
  have hGW : w.heap.size ≤ G := by omega
  rw [← hcA] at X1 S1
  rw [← hW1] at hC X1 S1
  rw [hG] at X1
  obtain ⟨CS, hmk, _⟩ := make_any kSx0 (n := n) (by omega) (z := (⟨#[]⟩, 0)) rfl
  have hmk' : ∀ W : World, (Instr.makeSlice 90 (.int .i64 (n : Int)) (.int .i64 (n : Int))).run Tryz.prog W = .ok (.slice (some ⟨W.heap.size, 0, none⟩) n n) (W.alloc (.cells CS 157)) := hmk
  clear s1 hcA hmk
  go_enter Tryz.func46, Tryz.ntmps46
  go_wp2_with fail
  rw [← hW1]
  clear hW1
  refine hC.mono ?_
  rintro e w2 ⟨gr, rfl, b2⟩
  have X2 := X1.keep (P := fun _ => False) (StepC.below S1.tidy b2) (fun h => h)
  have S2 := S1.belowL b2
  have hWd := soWords_any w2
  clear hC X1 S1 b2
  go_wp2_with fail
  refine hWd.mono ?_
  rintro e w4 ⟨T, rfl, hR, b4⟩
  have X4 := X2.keep (P := fun _ => False) (StepC.below S2.tidy b4) (fun h => h)
  have S4 := S2.belowL b4
  have hIn := newi0 w4 w2.heap.size n T hn hR
  clear hWd X2 S2 b4 hR
  go_wp2_with fail
  refine hIn.mono ?_
  rintro e w5 ⟨gm, rfl, b5⟩
  have X5 := X4.keep (P := fun _ => False) (StepC.below S4.tidy b5) (fun h => h)
  have S5 := S4.belowL b5
  have b6 : Below w5.heap.size w5 (w5.alloc (.cells CS 157)) := (Below.refl _ _).alloc (Nat.le_refl _) _
  have X6 := X5.keep (P := fun _ => False) (StepC.below S5.tidy b6) (fun h => h)
  have S6 := S5.belowL b6
  have z0 := X6.cell 0 rfl
  have z1 := X6.cell 1 rfl
  have z2 := X6.cell 2 rfl
  have f0 := X6.free 0
  have f1 := X6.free 1
  have f2 := X6.free 2
  have HX := Lib.hid (((X6.put 0 (.pointer (some ⟨gr, 0, none⟩))).put 1 (.pointer (some ⟨gm, 0, none⟩))).put 2 (.slice (some ⟨w5.heap.size, 0, none⟩) n n)).heap
  have HB := Lib.hid (below_set3 (G := G) S6.below hGW)
  clear hIn X4 S4 b5 X5 S5 b6 X6 S6
  go_wp2
  refine bodyPost_ret (results_cell_row rfl _ _ G _ _ (0, 0) _ rfl HX.out Tryz.underlying92 rfl (by kernel_rfl)) rfl ?_
  exact ⟨gr, gm, w5.heap.size, rfl, HB.out _ _ _⟩
theorem sNew0 (w : World) (n : Int) (hn : J64 n) : Calls Tryz.prog 33 #[.int .i64 n] w (New0 (svE n) w) := by
  unfold J64 at hn
  by_cases h1 : n < 1
  · have HE := Lib.hid (show svE n = 1 from if_pos (by omega))
    go_enter Tryz.func33, Tryz.ntmps33
    go_wp2
    go_ret2
    exact .inr ⟨by rw [HE.out]; decide, by rw [HE.out]; rfl, Below.refl _ _⟩
  by_cases h2 : n > 64
  · have HE := Lib.hid (show svE n = 1 from if_pos (by omega))
    go_enter Tryz.func33, Tryz.ntmps33
    go_wp2
    go_ret2
    exact .inr ⟨by rw [HE.out]; decide, by rw [HE.out]; rfl, Below.refl _ _⟩
  obtain ⟨q, rfl⟩ : ∃ q : Nat, n = (q : Int) := ⟨n.toNat, by omega⟩
  have HE := Lib.hid (show svE (q : Int) = 0 from if_neg (by omega))
  have hC := soEmpty0 w q (by omega)
  go_enter Tryz.func33, Tryz.ntmps33
  go_wp2_with fail
  refine hC.mono ?_
  rintro e w2 ⟨gr, gm, bE, rfl, b2⟩
  have HB := Lib.hid (fun a => b2.alloc b2.size a)
  clear hC b2
  go_wp2
  go_ret2
  exact .inl ⟨HE.out, w2.heap.size, rfl, HB.out _⟩
theorem fNew0 (w : World) (n : Int) (hn : J64 n) : Calls Tryz.prog 35 #[.int .i64 n] w (New0 (svE n) w) := by
  unfold J64 at hn
  by_cases h1 : n < 1
  · have HE := Lib.hid (show svE n = 1 from if_pos (by omega))
    go_enter Tryz.func35, Tryz.ntmps35
    go_wp2
    go_ret2
    exact .inr ⟨by rw [HE.out]; decide, by rw [HE.out]; rfl, Below.refl _ _⟩
  by_cases h2 : n > 64
  · have HE := Lib.hid (show svE n = 1 from if_pos (by omega))
    go_enter Tryz.func35, Tryz.ntmps35
    go_wp2
    go_ret2
    exact .inr ⟨by rw [HE.out]; decide, by rw [HE.out]; rfl, Below.refl _ _⟩
  obtain ⟨q, rfl⟩ : ∃ q : Nat, n = (q : Int) := ⟨n.toNat, by omega⟩
  have HE := Lib.hid (show svE (q : Int) = 0 from if_neg (by omega))
  have hq : 1 ≤ q ∧ q ≤ 64 := by omega
  have hWd := fWords_any w
  go_enter Tryz.func35, Tryz.ntmps35
  go_wp2_with fail
  refine hWd.mono ?_
  rintro e w1 ⟨T, rfl, hR, b1⟩
  have hIn := neww0 w1 w.heap.size q T hq hR
  have B1 := Lib.hid b1
  clear hWd b1 hR
  go_wp2_with fail
  refine hIn.mono ?_
  rintro e w2 ⟨gm, rfl, b2⟩
  have HB := Lib.hid (fun a => (below_then B1.out b2).alloc (Nat.le_trans B1.out.size b2.size) a)
  clear hIn b2 B1
  go_wp2
  go_ret2
  exact .inl ⟨HE.out, w2.heap.size, rfl, HB.out _⟩
theorem tbNew0 (w : World) (mode n : Int) (hm : J64 mode) (hn : J64 n) : Calls Tryz.prog 8 #[.int .i64 mode, .int .i64 n] w (New0 (nwTb mode n) w) := by
  by_cases c3 : mode ≠ 1 ∧ mode ≠ 2
  · have hE := Lib.hid (show nwTb mode n = 11 from if_pos c3)
    have e1 : (mode == 1) = false := beq_false_of_ne c3.1
    have e2 : (mode == 2) = false := beq_false_of_ne c3.2
    go_enter Tryz.func8, Tryz.ntmps8
    go_wp2
    go_ret2
    refine .inr ⟨by rw [hE.out]; decide, ?_, Below.refl _ _⟩
    rw [hE.out]
    rfl
  by_cases c1 : mode = 1
  · subst c1
    have hE : nwTb 1 n = svE n := by unfold nwTb svE; rw [if_neg (by omega)]
    have hC := sNew0 w n hn
    go_enter Tryz.func8, Tryz.ntmps8
    go_wp2_with fail
    refine hC.mono ?_
    rintro e w5 (⟨h0, gi, rfl, b5⟩ | ⟨h0, rfl, b5⟩)
    · have HB := Lib.hid (fun a => b5.alloc b5.size a)
      have HE := Lib.hid (hE.trans h0)
      clear hC b5 hE h0
      go_wp2
      go_ret2
      exact .inl ⟨HE.out, w5.heap.size, rfl, HB.out _⟩
    · have HE := Lib.hid hE
      have HB := Lib.hid b5
      clear hC b5 hE
      go_wp2
      go_ret2
      exact .inr ⟨by rw [HE.out]; exact h0, by rw [HE.out]; rfl, HB.out⟩
  by_cases c2 : mode = 2
  · subst c2
    have hE : nwTb 2 n = svE n := by unfold nwTb svE; rw [if_neg (by omega)]
    have hC := fNew0 w n hn
    go_enter Tryz.func8, Tryz.ntmps8
    go_wp2_with fail
    refine hC.mono ?_
    rintro e w5 (⟨h0, gi, rfl, b5⟩ | ⟨h0, rfl, b5⟩)
    · have HB := Lib.hid (fun a => b5.alloc b5.size a)
      have HE := Lib.hid (hE.trans h0)
      clear hC b5 hE h0
      go_wp2
      go_ret2
      exact .inl ⟨HE.out, w5.heap.size, rfl, HB.out _⟩
    · have HE := Lib.hid hE
      have HB := Lib.hid b5
      clear hC b5 hE
      go_wp2
      go_ret2
      exact .inr ⟨by rw [HE.out]; exact h0, by rw [HE.out]; rfl, HB.out⟩
  · exact absurd ⟨c1, c2⟩ c3
end Go.Proofs.YtajkcjbkbihgjaaGreat
