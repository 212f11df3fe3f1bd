/- The specified exact counters in memory: Least. Conditions: none beyond those typed. -/
import Derived.Test.YtjkomnjkolggnaaExref
import Derived.Deep.CutRange
namespace Go.Proofs.Ytjkomnjkolggnaa
open Go.ChangeShapes Go.WideShapes Go.ChangeAt Go.RowKit
set_option linter.unusedVariables false
set_option linter.unusedSimpArgs false
set_option maxRecDepth 100000

section
variable {P : Nat → Prop} {col col' : Col} {w w' : World} {k g : Nat} {t : ExSt}
set_option maxHeartbeats 2000000 in
theorem rxLeast (H : RefX col k w g t) :
    Calls Try.prog 23 #[.pointer (some ⟨g, 0, none⟩)] w fun e w' => e = .returned (.tuple #[.agg (VE t.least.1), .bool t.least.2]) ∧ Below w.heap.size w w' := by
  obtain ⟨A, c, x1, R, hl6⟩ := H.rows
  have hGd := H.1
  have b1 : Below w.heap.size w (w.alloc (.cells #[.string ⟨#[]⟩, .int .u64 0, .int .u64 0] 32)) := (Below.refl _ _).alloc (Nat.le_refl _) _
  have X1 : BoxN (w.alloc (.cells #[.string ⟨#[]⟩, .int .u64 0, .int .u64 0] 32)) w.heap.size (VE zeroE) 32 := ⟨heap_alloc_new w _, rfl⟩
  have y1 := (cellB x1 b1).1
  obtain ⟨l, hl⟩ : ∃ l, t.l = l := ⟨_, rfl⟩
  obtain ⟨n, hn⟩ : ∃ n, l.length = n := ⟨_, rfl⟩
  have hpos := fun (e : En) (he : e ∈ l) => hGd.ct (e := e) (by rw [hl]; exact he)
  rw [hl, hn] at x1 R hl6 y1
  have hcap := R.cap
  have hmax := R.max
  by_cases h0 : n = 0
  · subst h0
    rw [leastX_none (show t.l.length = 0 by rw [hl]; exact hn)]
    have HX := Lib.hid X1.heap
    have HB := Lib.hid b1
    clear X1 b1 hGd H R hn hl
    go_enter Try.func23, Try.ntmps23
    go_wp2
    refine bodyPost_ret (results_cell_row2 rfl _ _ w.heap.size _ _ (0, 0) _ rfl HX.out Try.underlying32 rfl (by kernel_rfl)) rfl ?_
    exact ⟨rfl, HB.out⟩
  · have h0I : ((n : Int) == 0) = false := beq_eq_false_iff_ne.2 (by omega)
    have h0n : 0 < n := by omega
    have h0i : (0 : Int) < (n : Int) := by omega
    have hLst : ∀ x, l[lastTo l n]? = some x → t.least = (x, true) := fun x hx => leastX_some (by rw [hl]; omega) (by rw [hl, hn]; exact hx)
    obtain ⟨b, o, e0, rfl, he0, z0, z1, z2⟩ := (R.below b1).atEn h0n
    have HLst := Lib.hid hLst
    have HR := Lib.hid R
    have b2 : Below w.heap.size w ((w.alloc (.cells #[.string ⟨#[]⟩, .int .u64 0, .int .u64 0] 32)).alloc (.cells (VE e0) 32)) := b1.alloc b1.size _
    have X2 : BoxN ((w.alloc (.cells #[.string ⟨#[]⟩, .int .u64 0, .int .u64 0] 32)).alloc (.cells (VE e0) 32)) w.heap.size (VE zeroE) 32 :=
      X1.keepB (m := (w.alloc (.cells #[.string ⟨#[]⟩, .int .u64 0, .int .u64 0] 32)).heap.size) ((Below.refl _ _).alloc (Nat.le_refl _) _) X1.lt
    have X3 : BoxN ((w.alloc (.cells #[.string ⟨#[]⟩, .int .u64 0, .int .u64 0] 32)).alloc (.cells (VE e0) 32)) (w.heap.size + 1) (VE e0) 32 := by
      have h := heap_alloc_new (w.alloc (.cells #[.string ⟨#[]⟩, .int .u64 0, .int .u64 0] 32)) (.cells (VE e0) 32)
      rw [show (w.alloc (.cells #[.string ⟨#[]⟩, .int .u64 0, .int .u64 0] 32)).heap.size = w.heap.size + 1 by simp] at h
      exact ⟨h, rfl⟩
    have y2 := (cellB x1 b2).1
    have HS := Lib.hid (And.intro X2 (And.intro X3 b2))
    have he0' : l[lastTo l 0]? = some e0 := he0
    have HE := Lib.hid he0'
    simp only [Nat.zero_mul, Nat.add_zero] at z0 z1 z2
    clear X1 X2 X3 b1 b2 hGd H R hLst he0 he0' hl
    go_enter Try.func23, Try.ntmps23
    go_wp2
    go_loopw [25] (fun iv wr => ∃ (i : Nat) (x : En), i ≤ n ∧ iv = .int .i64 (i : Int) ∧ l[lastTo l i]? = some x ∧ BoxN wr w.heap.size (VE zeroE) 32 ∧ BoxN wr (w.heap.size + 1) (VE x) 32 ∧ Below w.heap.size w wr) (fun iv _ => n - (intOf iv).toNat)
    case atStart => exact ⟨0, e0, Nat.zero_le _, rfl, HE.out, HS.out.1, HS.out.2.1, HS.out.2.2⟩
    case round =>
      obtain ⟨i, x, hi, rfl, hx, XG, XH, hB⟩ := hrel
      have hxm := hpos x (List.mem_of_getElem? hx)
      obtain ⟨p1, p2, p3, p4, p5, _⟩ := hxm
      unfold topX at p3 p4 p5
      clear z0 z1 z2 y1 y2
      by_cases hlt : i < n
      · obtain ⟨b', o', e, hb', he, z0, z1, z2⟩ := (HR.out.below hB).atEn hlt
        injection hb' with hb'; injection hb' with h1 h2; subst h1 h2
        obtain ⟨q1, q2, q3, q4, q5, _⟩ := hpos e (List.mem_of_getElem? he)
        unfold topX at q3 q4 q5
        have hiI : (i : Int) < (n : Int) := by omega
        have hw1 : IntKind.u64.wrap (e.2.1 + e.2.2) = e.2.1 + e.2.2 := IntWalk.u64_in _ ⟨by omega, by omega⟩
        have hw2 : IntKind.u64.wrap (x.2.1 + x.2.2) = x.2.1 + x.2.2 := IntWalk.u64_in _ ⟨by omega, by omega⟩
        have hB2 := hB.alloc hB.size (.cells (VE e) 32)
        have bA : Below wr.heap.size wr (wr.alloc (.cells (VE e) 32)) := (Below.refl _ _).alloc (Nat.le_refl _) _
        have v0 : (wr.alloc (.cells (VE e) 32)).cell? ⟨wr.heap.size, 0, none⟩ = some (.string e.1) := (World.cell?_alloc_at (w := wr) _ _ _ _ rfl).trans rfl
        have v1 : (wr.alloc (.cells (VE e) 32)).cell? ⟨wr.heap.size, 1, none⟩ = some (.int .u64 e.2.1) := (World.cell?_alloc_at (w := wr) _ _ _ _ rfl).trans rfl
        have v2 : (wr.alloc (.cells (VE e) 32)).cell? ⟨wr.heap.size, 2, none⟩ = some (.int .u64 e.2.2) := (World.cell?_alloc_at (w := wr) _ _ _ _ rfl).trans rfl
        have XG2 := XG.keepB bA XG.lt
        have XH2 := XH.keepB bA XH.lt
        have g0 : (wr.alloc (.cells (VE e) 32)).cell? ⟨w.heap.size + 1, 0, none⟩ = some (.string x.1) := XH2.cell 0 rfl
        have g1 : (wr.alloc (.cells (VE e) 32)).cell? ⟨w.heap.size + 1, 1, none⟩ = some (.int .u64 x.2.1) := XH2.cell 1 rfl
        have g2 : (wr.alloc (.cells (VE e) 32)).cell? ⟨w.heap.size + 1, 2, none⟩ = some (.int .u64 x.2.2) := XH2.cell 2 rfl
        have hstep : lastTo l (i + 1) = if ctAt l i ≤ ctAt l (lastTo l i) then i else lastTo l i := rfl
        rw [ctAt_at he, ctAt_at hx] at hstep
        unfold ctE at hstep
        by_cases hc : e.2.1 + e.2.2 ≤ x.2.1 + x.2.2
        · rw [if_pos hc] at hstep
          have f0 := XH2.free 0
          have f1 := XH2.free 1
          have f2 := XH2.free 2
          have XH3 := vbox_en XH2 e
          have bS := (((Below.refl (w.heap.size + 1) (wr.alloc (.cells (VE e) 32))).setCell (p := ⟨w.heap.size + 1, 0, none⟩) (Nat.le_refl _) (.string e.1)).setCell (p := ⟨w.heap.size + 1, 1, none⟩) (Nat.le_refl _) (.int .u64 e.2.1)).setCell (p := ⟨w.heap.size + 1, 2, none⟩) (Nat.le_refl _) (.int .u64 e.2.2)
          have XG3 := XG2.keepB bS (Nat.lt_succ_self _)
          have bF := ((hB2.setCell (p := ⟨w.heap.size + 1, 0, none⟩) (Nat.le_succ _) (.string e.1)).setCell (p := ⟨w.heap.size + 1, 1, none⟩) (Nat.le_succ _) (.int .u64 e.2.1)).setCell (p := ⟨w.heap.size + 1, 2, none⟩) (Nat.le_succ _) (.int .u64 e.2.2)
          have HF := Lib.hid (And.intro XG3 (And.intro XH3 bF))
          have HI := Lib.hid (show l[lastTo l (i + 1)]? = some e by rw [hstep]; exact he)
          clear XG XG2 XG3 XH XH2 XH3 bS bF bA hB hB2 hstep he hx hpos
          go_wp2
          go_roundw
          case rel => exact ⟨i + 1, e, by omega, by go_num, HI.out, HF.out.1, HF.out.2.1, HF.out.2.2⟩
          case measure => (simp [intOf] <;> omega)
        · rw [if_neg hc] at hstep
          have HF := Lib.hid (And.intro XG2 (And.intro XH2 hB2))
          have HI := Lib.hid (show l[lastTo l (i + 1)]? = some x by rw [hstep]; exact hx)
          clear XG XG2 XH XH2 bA hB hB2 hstep he hx hpos
          go_wp2
          go_roundw
          case rel => exact ⟨i + 1, x, by omega, by go_num, HI.out, HF.out.1, HF.out.2.1, HF.out.2.2⟩
          case measure => (simp [intOf] <;> omega)
      · obtain rfl : i = n := by omega
        have hiI : ¬ (i : Int) < (i : Int) := by omega
        have g0 : wr.cell? ⟨w.heap.size + 1, 0, none⟩ = some (.string x.1) := XH.cell 0 rfl
        have g1 : wr.cell? ⟨w.heap.size + 1, 1, none⟩ = some (.int .u64 x.2.1) := XH.cell 1 rfl
        have g2 : wr.cell? ⟨w.heap.size + 1, 2, none⟩ = some (.int .u64 x.2.2) := XH.cell 2 rfl
        have y0 : wr.cell? ⟨w.heap.size, 0, none⟩ = some (.string ⟨#[]⟩) := XG.cell 0 rfl
        have y1 : wr.cell? ⟨w.heap.size, 1, none⟩ = some (.int .u64 0) := XG.cell 1 rfl
        have y2 : wr.cell? ⟨w.heap.size, 2, none⟩ = some (.int .u64 0) := XG.cell 2 rfl
        have f0 := XG.free 0
        have f1 := XG.free 1
        have f2 := XG.free 2
        have HX := Lib.hid (vbox_en XG (a := zeroE) x).heap
        have HB := Lib.hid (((hB.setCell (p := ⟨w.heap.size, 0, none⟩) (Nat.le_refl _) (.string x.1)).setCell (p := ⟨w.heap.size, 1, none⟩) (Nat.le_refl _) (.int .u64 x.2.1)).setCell (p := ⟨w.heap.size, 2, none⟩) (Nat.le_refl _) (.int .u64 x.2.2))
        have HL := Lib.hid (HLst.out x hx)
        clear XG XH hB hx hpos HLst
        go_wp2
        refine bodyPost_ret (results_cell_row2 rfl _ _ w.heap.size _ _ (0, 0) _ rfl HX.out Try.underlying32 rfl (by kernel_rfl)) rfl ?_
        rw [HL.out]
        exact ⟨rfl, HB.out⟩
end
end Go.Proofs.Ytjkomnjkolggnaa
