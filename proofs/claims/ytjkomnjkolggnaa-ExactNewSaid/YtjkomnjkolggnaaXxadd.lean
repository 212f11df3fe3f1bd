/- The program's exact counters: Least, Add, Take. Conditions: none beyond those typed. -/
import Derived.Test.YtjkomnjkolggnaaXxbox
import Derived.Deep.RegionHeld3
import Derived.BigQuiet
namespace Go.Proofs.Ytjkomnjkolggnaa
open Go.ChangeShapes Go.WideShapes Go.ChangeAt Go.RowKit
set_option linter.unusedVariables false
set_option linter.unusedSimpArgs false
set_option maxRecDepth 100000

section
variable {P : Nat → Prop} {col col' : Col} {w w' : World} {k g : Nat} {t : ExSt} {A A' : Option Addr} {c c' N : Nat} {l' : List En}
/-- The row has turned, and is written back. -/
theorem SxB.grow (h : SxB col k w g t A c) (ht : Tidy col w) (hN : l'.length = N) (hO : OwnK kEn w' (.slice A' N c') l') (hg : w.grownBy w' (Value.slice A t.l.length c).ownBlock)
    (hat : (Value.slice A' N c').ownBlock = (Value.slice A t.l.length c).ownBlock ∨ (Value.slice A' N c').ownBlock = some w.heap.size) :
    ∃ col', SxB col' k (w'.setCell ⟨g, 0, none⟩ (.slice A' N c')) g { t with l := l' } A' c' ∧ StepC (Rng k) col w col' (w'.setCell ⟨g, 0, none⟩ (.slice A' N c')) := by
  subst hN
  have hk := h.k1
  have s1 : StepC (fun d => d = k + 1) col w (dye col (Value.slice A' l'.length c').ownBlock (k + 1)) w' := StepC.app ht hg h.row.col rfl hat hO.lt
  have b1 := h.box.keep s1 (by omega)
  have s2 := StepC.set (P := fun d => d = k) s1.tidy (a := ⟨g, 0, none⟩) b1.col (.slice A' l'.length c')
  exact ⟨_, ⟨b1.put 0 _, (OwnKc.mk' (c := k + 1) kEn hO).keep s2 (by omega), hk⟩, (s1.mono fun c e => ⟨by omega, by omega⟩).trans (s2.mono fun c e => ⟨by omega, by omega⟩)⟩
/-- The number of an entry grows. -/
theorem SxB.bump {b i : Nat} {e : En} (h : SxB col k w g t (some ⟨b, 0, none⟩) c) (ht : Tidy col w) (hi : t.l[i]? = some e) (x : Int) :
    SxB col k (w.setCell ⟨b, i * 3 + 1, none⟩ (.int .u64 (e.2.1 + x))) g { t with l := t.l.set i (moreE e x) } (some ⟨b, 0, none⟩) c ∧ StepC (Rng k) col w col (w.setCell ⟨b, i * 3 + 1, none⟩ (.int .u64 (e.2.1 + x))) := by
  have hcol : col b = k + 1 := h.row.col b rfl
  have s := StepC.set (P := fun d => d = k + 1) ht (a := ⟨b, i * 3 + 1, none⟩) hcol (.int .u64 (e.2.1 + x))
  have b1 := h.box.keep s (by omega)
  have r1 := h.row.set (i := 1) (a' := moreE e x) (u := .int .u64 (e.2.1 + x)) hi (by simp [kEn]) rfl
  refine ⟨⟨?_, ?_, h.k1⟩, s.mono fun c e => ⟨by omega, by omega⟩⟩
  · show BoxC _ _ _ _ #[.slice _ (t.l.set i (moreE e x)).length c, .int .i64 t.n] _
    rw [List.length_set]; exact b1
  · show OwnKc kEn _ _ _ (.slice _ (t.l.set i (moreE e x)).length c) (t.l.set i (moreE e x))
    rw [List.length_set]; exact r1
/-- A result's box of colour k + 16 is written behind the store's steps. -/
theorem SxB.boxed {c1 : Col} {W : World} {G : Nat} {a : En} (H : SxB c1 k W g t A c) (S : StepC (Rng k) col w c1 W) (X3 : BoxC c1 W G (k + 16) (VE a) 32) (h : w.heap.size ≤ G) (e : En) :
    SxB c1 k (((W.setCell ⟨G, 0, none⟩ (.string e.1)).setCell ⟨G, 1, none⟩ (.int .u64 e.2.1)).setCell ⟨G, 2, none⟩ (.int .u64 e.2.2)) g t A c ∧ StepC (Rng k) col w c1 (((W.setCell ⟨G, 0, none⟩ (.string e.1)).setCell ⟨G, 1, none⟩ (.int .u64 e.2.1)).setCell ⟨G, 2, none⟩ (.int .u64 e.2.2)) ∧ (((W.setCell ⟨G, 0, none⟩ (.string e.1)).setCell ⟨G, 1, none⟩ (.int .u64 e.2.1)).setCell ⟨G, 2, none⟩ (.int .u64 e.2.2)).heap[G]? = some (.cells (VE e) 32 (0, 0)) ∧
      W.cell? ⟨G, 0, none⟩ = some (.string a.1) ∧ W.cell? ⟨G, 1, none⟩ = some (.int .u64 a.2.1) ∧ W.cell? ⟨G, 2, none⟩ = some (.int .u64 a.2.2) ∧ W.frozen? ⟨G, 0, none⟩ = false ∧ W.frozen? ⟨G, 1, none⟩ = false ∧ W.frozen? ⟨G, 2, none⟩ = false := by
  have u1 := StepC.set (P := fun d => d = k + 16) (a := ⟨G, 0, none⟩) S.tidy X3.col (.string e.1)
  have u2 := StepC.set (P := fun d => d = k + 16) (a := ⟨G, 1, none⟩) u1.tidy X3.col (.int .u64 e.2.1)
  have u3 := StepC.set (P := fun d => d = k + 16) (a := ⟨G, 2, none⟩) u2.tidy X3.col (.int .u64 e.2.2)
  have g1 := StepC.inNew (a := ⟨G, 0, none⟩) S h (.string e.1)
  have g2 := StepC.inNew (a := ⟨G, 1, none⟩) g1 h (.int .u64 e.2.1)
  have g3 := StepC.inNew (a := ⟨G, 2, none⟩) g2 h (.int .u64 e.2.2)
  exact ⟨H.keep ((u1.trans u2).trans u3) (fun c hc e => by have := hc.2; omega), g3, (vbox_en X3 e).heap, X3.cell 0 rfl, X3.cell 1 rfl, X3.cell 2 rfl, X3.free 0, X3.free 1, X3.free 2⟩
theorem sixE {W W' : World} {G H : Nat} {e x : En} (h : BoxN W G (VE e) 32) (h' : BoxN W H (VE x) 32) (hb : Below W.heap.size W W') :
    W'.cell? ⟨G, 0, none⟩ = some (.string e.1) ∧ W'.cell? ⟨G, 1, none⟩ = some (.int .u64 e.2.1) ∧ W'.cell? ⟨G, 2, none⟩ = some (.int .u64 e.2.2) ∧ W'.cell? ⟨H, 0, none⟩ = some (.string x.1) ∧ W'.cell? ⟨H, 1, none⟩ = some (.int .u64 x.2.1) ∧ W'.cell? ⟨H, 2, none⟩ = some (.int .u64 x.2.2) ∧ Below W.heap.size W W' :=
  ⟨(h.keepB hb h.lt).cell 0 rfl, (h.keepB hb h.lt).cell 1 rfl, (h.keepB hb h.lt).cell 2 rfl, (h'.keepB hb h'.lt).cell 0 rfl, (h'.keepB hb h'.lt).cell 1 rfl, (h'.keepB hb h'.lt).cell 2 rfl, hb⟩
set_option maxHeartbeats 4000000 in
theorem xLeast (H : PXs col k w g t) (ht : Tidy col w) :
    Calls Try.prog 11 #[.pointer (some ⟨g, 0, none⟩)] w fun e w' => e = .returned (.tuple #[.agg (VE t.least.1), .bool t.least.2]) ∧ Below w.heap.size w w' := by
  have hGd := H.1
  have b1 : Below w.heap.size w (w.alloc (.cells #[.string ⟨#[]⟩, .int .u64 0, .int .u64 0] 32)) := (Below.refl _ _).alloc (Nat.le_refl _) _
  have X1 : BoxN (w.alloc (.cells #[.string ⟨#[]⟩, .int .u64 0, .int .u64 0] 32)) w.heap.size (VE zeroE) 32 := ⟨heap_alloc_new w _, rfl⟩
  have H1 := H.below ht b1
  have hLn := xLen H1
  obtain ⟨_, A, c, HB⟩ := H1
  have x1 := HB.box.cell 0 rfl
  have R := HB.row.own.reads
  have hHd := fun h => HB.row.own.head h
  have hl6 : t.l.length ≤ 64 := by have := hGd.len; have := hGd.n1; omega
  obtain ⟨l, hl⟩ : ∃ l, t.l = l := ⟨_, rfl⟩
  obtain ⟨n, hn⟩ : ∃ n, l.length = n := ⟨_, rfl⟩
  have hpos := fun (e : En) (he : e ∈ l) => hGd.ct (e := e) (by rw [hl]; exact he)
  rw [hl, hn] at x1 R hl6 hLn hHd
  have hcap := R.cap
  have hmax := R.max
  obtain ⟨W1, hW1⟩ : ∃ W1, W1 = (w.alloc (.cells #[.string ⟨#[]⟩, .int .u64 0, .int .u64 0] 32)) := ⟨_, rfl⟩
  obtain ⟨G, hG⟩ : ∃ G, w.heap.size = G := ⟨_, rfl⟩
  rw [← hW1] at X1 hLn x1 R b1
  rw [hG] at X1
  by_cases h0 : n = 0
  · subst h0
    rw [leastX_none (show t.l.length = 0 by rw [hl]; exact hn)]
    clear HB hGd H R hn hl hHd
    go_enter Try.func11, Try.ntmps11
    go_wp2_with fail
    rw [← hW1]
    clear hW1
    refine hLn.mono ?_
    rintro e w2 ⟨rfl, b2⟩
    have X2 := X1.keepB b2 X1.lt
    have y0 : w2.cell? ⟨G, 0, none⟩ = some (.string ⟨#[]⟩) := X2.cell 0 rfl
    have y1 : w2.cell? ⟨G, 1, none⟩ = some (.int .u64 0) := X2.cell 1 rfl
    have y3 : w2.cell? ⟨G, 2, none⟩ = some (.int .u64 0) := X2.cell 2 rfl
    have f0 := X2.free 0
    have f1 := X2.free 1
    have f2 := X2.free 2
    have HX := Lib.hid (vbox_en X2 (a := zeroE) zeroE).heap
    have HB := Lib.hid ((((below_then b1 b2).setCell (p := ⟨G, 0, none⟩) (by rw [hG]; exact Nat.le_refl _) (.string ⟨#[]⟩)).setCell (p := ⟨G, 1, none⟩) (by rw [hG]; exact Nat.le_refl _) (.int .u64 0)).setCell (p := ⟨G, 2, none⟩) (by rw [hG]; exact Nat.le_refl _) (.int .u64 0))
    clear X1 X2 hLn b1 b2 hG x1
    go_wp2
    refine bodyPost_ret (results_cell_row2 rfl _ _ G _ _ (0, 0) _ rfl HX.out Try.underlying32 rfl (by kernel_rfl)) rfl ?_
    exact ⟨rfl, HB.out⟩
  · have h0I : ((n : Int) == 0) = false := beq_eq_false_iff_ne.2 (by omega)
    have h0n : 0 < n := by omega
    have h0i : (0 : Int) < (n : Int) := by omega
    have hLst : ∀ x, l[lastTo l n]? = some x → t.least = (x, true) := fun x hx => leastX_some (by rw [hl]; omega) (by rw [hl, hn]; exact hx)
    obtain ⟨b, rfl, _⟩ := hHd h0n
    have HLst := Lib.hid hLst
    have HR := Lib.hid R
    clear HB hGd H hLst hl hHd
    go_enter Try.func11, Try.ntmps11
    go_wp2_with fail
    rw [← hW1]
    clear hW1
    refine hLn.mono ?_
    rintro e w2 ⟨rfl, b2⟩
    have bw2 := below_then b1 b2
    have R2 := R.below b2
    obtain ⟨b', o', e0, hA', he0, z0, z1, z2⟩ := R2.atEn h0n
    injection hA' with hA'; injection hA' with hA1 hA2; subst hA1 hA2
    simp only [Nat.zero_mul, Nat.add_zero, Nat.zero_add] at z0 z1 z2
    have x2 := (cellB x1 b2).1
    have bA : Below w2.heap.size w2 (w2.alloc (.cells (VE e0) 32)) := (Below.refl _ _).alloc (Nat.le_refl _) _
    have x3 := (cellB x2 bA).1
    obtain ⟨AD, hAD, RD⟩ : ∃ AD, (if c = 1 then (some ⟨b, 0, none⟩ : Option Addr) else some ⟨b, 3, none⟩) = some AD ∧ RdG kEn w2 (some AD) (n - 1) (c - 1) (l.drop 1) := by
      have h := R2.dropIf (i := 1) (by omega)
      rw [show 0 + 1 * kEn.k = 3 by simp [kEn]] at h
      by_cases hc : c = 1
      · rw [if_pos hc] at h ⊢; exact ⟨_, rfl, h⟩
      · rw [if_neg hc] at h ⊢; exact ⟨_, rfl, h⟩
    have X3 := X1.keepB (b2.mono (Nat.le_refl _)) X1.lt
    have X4 := X3.keepB bA X3.lt
    have XH : BoxN (w2.alloc (.cells (VE e0) 32)) w2.heap.size (VE e0) 32 := ⟨heap_alloc_new _ _, rfl⟩
    have hB3 := bw2.alloc bw2.size (.cells (VE e0) 32)
    have hHG : G ≤ w2.heap.size := by rw [← hG]; exact bw2.size
    have hGH : G < w2.heap.size := Nat.lt_of_lt_of_le X1.lt b2.size
    have HS := Lib.hid (And.intro X4 (And.intro XH bA))
    have HW := Lib.hid bw2
    have h9 : lastTo l (0 + 1) = 0 := by simp [lastTo]
    have HE := Lib.hid (show l[lastTo l (0 + 1)]? = some e0 from by rw [h9]; exact he0)
    clear h9
    have h1n : (1 : Int) ≤ (n : Int) := by omega
    have hnc : (n : Int) ≤ (c : Int) := by omega
    have h1c : (1 : Int) ≤ (c : Int) := by omega
    obtain ⟨m, hm⟩ : ∃ m, n - 1 = m := ⟨_, rfl⟩
    rw [hm] at RD
    have HD := Lib.hid RD
    have hlD : ∀ i : Nat, (l.drop 1)[i]? = l[i + 1]? := fun i => by rw [List.getElem?_drop, Nat.add_comm]
    have HL := Lib.hid hlD
    clear hlD
    clear X1 X3 X4 XH hB3 R R2 HR RD he0 hLn bw2 b1 b2 bA
    go_wp2
    have hb2 : ∀ (W : World), Below w2.heap.size w2 W → Below w.heap.size w W := fun W h => below_then HW.out h
    obtain ⟨Hh, hHh⟩ : ∃ Hh, w2.heap.size = Hh := ⟨_, rfl⟩
    rw [hHh] at HS hHG hGH hb2 ⊢
    have HB2 := Lib.hid hb2
    have HD2 := Lib.hid (fun (W : World) (hb : Below Hh w2 W) => HD.out.below (by rw [hHh]; exact hb))
    generalize w2.alloc (.cells (VE e0) 32) = W3 at *
    clear HD HW hb2 hHh
    go_loopw [23] (fun iv wr => ∃ (i : Nat) (x : En), i ≤ m ∧ iv = .int .i64 (i : Int) ∧ l[lastTo l (i + 1)]? = some x ∧ BoxN wr G (VE zeroE) 32 ∧ BoxN wr Hh (VE x) 32 ∧ Below Hh w2 wr) (fun iv _ => m - (intOf iv).toNat)
    case atStart => exact ⟨0, e0, Nat.zero_le _, rfl, HE.out, HS.out.1, HS.out.2.1, HS.out.2.2⟩
    case round =>
      obtain ⟨i, x, hi, rfl, hx, XG, XH, hB⟩ := hrel
      have hxm := hpos x (List.mem_of_getElem? hx)
      obtain ⟨p1, p2, p3, p4, p5, _⟩ := hxm
      unfold topX at p3 p4 p5
      clear z0 z1 z2 x1 x2 x3
      by_cases hlt : i < m
      · obtain ⟨b', o', e, hb', he, z0, z1, z2⟩ := (HD2.out _ hB).atEn hlt
        injection hb' with hb'; subst hb'
        rw [HL.out] at he
        obtain ⟨q1, q2, q3, q4, q5, _⟩ := hpos e (List.mem_of_getElem? he)
        unfold topX at q3 q4 q5
        have hiI : (i : Int) < (m : Int) := by omega
        have hw1 : IntKind.u64.wrap (e.2.1 + e.2.2) = ctE e := IntWalk.u64_in _ ⟨by omega, by omega⟩
        have hw2 : IntKind.u64.wrap (x.2.1 + x.2.2) = ctE x := IntWalk.u64_in _ ⟨by omega, by omega⟩
        have hCe := fun W => xcount e hw1 W
        have hCx := fun W => xcount x hw2 W
        have bA : Below wr.heap.size wr (wr.alloc (.cells (VE e) 32)) := (Below.refl _ _).alloc (Nat.le_refl _) _
        have XJ : BoxN (wr.alloc (.cells (VE e) 32)) wr.heap.size (VE e) 32 := ⟨heap_alloc_new _ _, rfl⟩
        have XG2 := XG.keepB bA XG.lt
        have XH2 := XH.keepB bA XH.lt
        have hHJ : Hh < wr.heap.size := XH.lt
        have hGJ : G < wr.heap.size := XG.lt
        have hB2 := hB.alloc (Nat.le_of_lt hHJ) (.cells (VE e) 32)
        have hstep : lastTo l (i + 1 + 1) = if ctAt l (i + 1) ≤ ctAt l (lastTo l (i + 1)) then i + 1 else lastTo l (i + 1) := rfl
        rw [ctAt_at he, ctAt_at hx] at hstep
        clear hpos HS HE XG XH bA hB hw1 hw2
        go_wp2_with fail
        generalize wr.heap.size = J at *
        generalize wr.alloc (.cells (VE e) 32) = W4 at *
        obtain ⟨ce, hce⟩ : ∃ ce, ctE e = ce := ⟨_, rfl⟩
        obtain ⟨cx, hcx⟩ : ∃ cx, ctE x = cx := ⟨_, rfl⟩
        rw [hce] at hCe hstep
        rw [hcx] at hCx hstep
        by_cases hc : ce ≤ cx
        · rw [if_pos hc] at hstep
          go_region_held3 (fun W => W.cell? ⟨J, 0, none⟩ = some (.string e.1) ∧ W.cell? ⟨J, 1, none⟩ = some (.int .u64 e.2.1) ∧ W.cell? ⟨J, 2, none⟩ = some (.int .u64 e.2.2) ∧ W.cell? ⟨Hh, 0, none⟩ = some (.string x.1) ∧ W.cell? ⟨Hh, 1, none⟩ = some (.int .u64 x.2.1) ∧ W.cell? ⟨Hh, 2, none⟩ = some (.int .u64 x.2.2) ∧ Below W4.heap.size W4 W)
            (first | exact sixE XJ XH2 (by assumption) | exact sixE XJ XH2 (Below.refl _ _).drew)
            (first
              | (go_at_call 29; refine (hCe _).mono ?_; rintro r wE ⟨rfl, bE⟩; first | (have BF : Below W4.heap.size W4 wE := below_then BX bE) | (have BE : Below W4.heap.size W4 wE := below_from bE))
              | (go_at_call 29; refine (hCx _).mono ?_; rintro r wX ⟨rfl, bX⟩; first | (have BF : Below W4.heap.size W4 wX := below_then BE bX) | (have BX : Below W4.heap.size W4 wX := below_from bX)))
          all_goals
            have XJ3 := XJ.keepB BF XJ.lt
            have XH3 := XH2.keepB BF XH2.lt
            have XG3 := XG2.keepB BF XG2.lt
            have hB3 := hB2.trans (BF.mono (Nat.le_of_lt XH2.lt))
            have v0 : wX.cell? ⟨J, 0, none⟩ = some (.string e.1) := XJ3.cell 0 rfl
            have v1 : wX.cell? ⟨J, 1, none⟩ = some (.int .u64 e.2.1) := XJ3.cell 1 rfl
            have v2 : wX.cell? ⟨J, 2, none⟩ = some (.int .u64 e.2.2) := XJ3.cell 2 rfl
            have g0 : wX.cell? ⟨Hh, 0, none⟩ = some (.string x.1) := XH3.cell 0 rfl
            have g1 : wX.cell? ⟨Hh, 1, none⟩ = some (.int .u64 x.2.1) := XH3.cell 1 rfl
            have g2 : wX.cell? ⟨Hh, 2, none⟩ = some (.int .u64 x.2.2) := XH3.cell 2 rfl
            have f0 := XH3.free 0
            have f1 := XH3.free 1
            have f2 := XH3.free 2
            have XH4 := vbox_en XH3 e
            have bS := (((Below.refl Hh wX).setCell (p := ⟨Hh, 0, none⟩) (Nat.le_refl _) (.string e.1)).setCell (p := ⟨Hh, 1, none⟩) (Nat.le_refl _) (.int .u64 e.2.1)).setCell (p := ⟨Hh, 2, none⟩) (Nat.le_refl _) (.int .u64 e.2.2)
            have XG4 := XG3.keepB bS hGH
            have HF := Lib.hid (And.intro XG4 (And.intro XH4 (hB3.trans bS)))
            have HI := Lib.hid (show l[lastTo l (i + 1 + 1)]? = some e by rw [hstep]; exact he)
            clear XG2 XG3 XG4 XH2 XH3 XH4 XJ XJ3 BF bS hB2 hB3 hstep he hx
            go_wp2
            go_roundw
            case rel => exact ⟨i + 1, e, by omega, by go_num, HI.out, HF.out.1, HF.out.2.1, HF.out.2.2⟩
            case measure => (simp [intOf] <;> omega)
        · rw [if_neg hc] at hstep
          go_region_held3 (fun W => W.cell? ⟨J, 0, none⟩ = some (.string e.1) ∧ W.cell? ⟨J, 1, none⟩ = some (.int .u64 e.2.1) ∧ W.cell? ⟨J, 2, none⟩ = some (.int .u64 e.2.2) ∧ W.cell? ⟨Hh, 0, none⟩ = some (.string x.1) ∧ W.cell? ⟨Hh, 1, none⟩ = some (.int .u64 x.2.1) ∧ W.cell? ⟨Hh, 2, none⟩ = some (.int .u64 x.2.2) ∧ Below W4.heap.size W4 W)
            (first | exact sixE XJ XH2 (by assumption) | exact sixE XJ XH2 (Below.refl _ _).drew)
            (first
              | (go_at_call 29; refine (hCe _).mono ?_; rintro r wE ⟨rfl, bE⟩; first | (have BF : Below W4.heap.size W4 wE := below_then BX bE) | (have BE : Below W4.heap.size W4 wE := below_from bE))
              | (go_at_call 29; refine (hCx _).mono ?_; rintro r wX ⟨rfl, bX⟩; first | (have BF : Below W4.heap.size W4 wX := below_then BE bX) | (have BX : Below W4.heap.size W4 wX := below_from bX)))
          all_goals
            have HF := Lib.hid (And.intro (XG2.keepB BF XG2.lt) (And.intro (XH2.keepB BF XH2.lt) (hB2.trans (BF.mono (Nat.le_of_lt XH2.lt)))))
            have HI := Lib.hid (show l[lastTo l (i + 1 + 1)]? = some x by rw [hstep]; exact hx)
            clear XG2 XH2 XJ BF hB2 hstep he hx
            go_wp2
            go_roundw
            case rel => exact ⟨i + 1, x, by omega, by go_num, HI.out, HF.out.1, HF.out.2.1, HF.out.2.2⟩
            case measure => (simp [intOf] <;> omega)
      · obtain rfl : i = m := by omega
        have hiI : ¬ (i : Int) < (i : Int) := by omega
        have g0 : wr.cell? ⟨Hh, 0, none⟩ = some (.string x.1) := XH.cell 0 rfl
        have g1 : wr.cell? ⟨Hh, 1, none⟩ = some (.int .u64 x.2.1) := XH.cell 1 rfl
        have g2 : wr.cell? ⟨Hh, 2, none⟩ = some (.int .u64 x.2.2) := XH.cell 2 rfl
        have y0 : wr.cell? ⟨G, 0, none⟩ = some (.string ⟨#[]⟩) := XG.cell 0 rfl
        have y1 : wr.cell? ⟨G, 1, none⟩ = some (.int .u64 0) := XG.cell 1 rfl
        have y2 : wr.cell? ⟨G, 2, none⟩ = some (.int .u64 0) := XG.cell 2 rfl
        have f0 := XG.free 0
        have f1 := XG.free 1
        have f2 := XG.free 2
        have HX := Lib.hid (vbox_en XG (a := zeroE) x).heap
        have HB := Lib.hid ((((HB2.out _ hB).setCell (p := ⟨G, 0, none⟩) (by rw [hG]; exact Nat.le_refl _) (.string x.1)).setCell (p := ⟨G, 1, none⟩) (by rw [hG]; exact Nat.le_refl _) (.int .u64 x.2.1)).setCell (p := ⟨G, 2, none⟩) (by rw [hG]; exact Nat.le_refl _) (.int .u64 x.2.2))
        have HLe := Lib.hid (HLst.out x (by rw [← show i + 1 = n by omega]; exact hx))
        clear XG XH hB hx hpos HLst HS HE hG hHG hm
        go_wp2
        refine bodyPost_ret (results_cell_row2 rfl _ _ G _ _ (0, 0) _ rfl HX.out Try.underlying32 rfl (by kernel_rfl)) rfl ?_
        rw [HLe.out]
        exact ⟨rfl, HB.out⟩
set_option maxHeartbeats 4000000 in
theorem xAdd (H : PXs col k w g t) (ht : Tidy col w) (s : ByteArray) (x : Int) (hx : 0 ≤ x ∧ x ≤ 18446744073709551615) :
    Calls Try.prog 13 #[.pointer (some ⟨g, 0, none⟩), .string s, .int .u64 x] w fun e w' => e = .returned (.int .i64 (t.add s x).1) ∧ DidPX PXs col k w g (t.add s x).2 w' := by
  obtain ⟨hG, A, c, HB⟩ := H
  obtain ⟨n, hn⟩ : ∃ n, t.l.length = n := ⟨_, rfl⟩
  have hn6 : n ≤ 64 := by have := hG.len; have := hG.n1; omega
  have x1 : w.cell? ⟨g, 0, none⟩ = some (.slice A n c) := by rw [← hn]; exact HB.box.cell 0 rfl
  have R : RdG kEn w A n c t.l := by rw [← hn]; exact HB.row.own.reads
  have hPl := xfind (HB.box.cell 0 rfl) HB.row.own.reads hG.srt (by omega) s
  cases ha : atK t.l s with
  | false =>
    have hp := atK_no hG.srt ha
    rw [ha] at hPl
    rw [addX_none hp]
    have HD := Lib.hid (fun (W : World) (hb : Below w.heap.size w W) => show DidPX PXs col k w g t W from ⟨col, ⟨hG, A, c, HB.below ht hb⟩, StepC.below ht hb⟩)
    clear HB hG R hp
    go_enter Try.func13, Try.ntmps13
    go_wp2_with fail
    refine hPl.mono ?_
    rintro e w1 ⟨rfl, b1⟩
    go_wp2
    go_ret
    exact ⟨rfl, HD.out _ b1⟩
  | true =>
    obtain ⟨e0, he0, -, hp, hil⟩ := atK_yes ha
    rw [ha] at hPl
    generalize placeM t.l s = i at *
    obtain ⟨p1, p2, p3, p4, p5, _⟩ := hG.ct (List.mem_of_getElem? he0)
    unfold topX at p3 p4 p5
    have hw1 : IntKind.u64.wrap (e0.2.1 + e0.2.2) = ctE e0 := IntWalk.u64_in _ ⟨by omega, by omega⟩
    have hC := fun W => xcount e0 hw1 W
    obtain ⟨y, hy⟩ : ∃ y, ctE e0 = y := ⟨_, rfl⟩
    have hyv : e0.2.1 + e0.2.2 = y := hy
    have hF := fun W => fits_any y x W ⟨by omega, by omega⟩ hx
    rw [hy] at hC
    have hiI : ¬ (i : Int) < 0 := by omega
    have hin : (i : Int) < (n : Int) := by omega
    obtain ⟨b, rfl, _⟩ : ∃ b, A = some ⟨b, 0, none⟩ ∧ b < w.heap.size := HB.row.own.head (Nat.lt_of_le_of_lt (Nat.zero_le i) hil)
    have hcap := R.cap
    have hmax := R.max
    cases hf : fitsB y x with
    | false =>
      rw [addX_over hp he0 (by rw [hy]; exact hf)]
      have HD := Lib.hid (fun (W : World) (hb : Below w.heap.size w W) => show DidPX PXs col k w g t W from ⟨col, ⟨hG, _, c, HB.below ht hb⟩, StepC.below ht hb⟩)
      have HR := Lib.hid R
      clear HB hG R hp
      go_enter Try.func13, Try.ntmps13
      go_wp2_with fail
      refine hPl.mono ?_
      rintro e w1 ⟨rfl, b1⟩
      have z := (cellB x1 b1).1
      obtain ⟨b', o', e', hb', he', q0, q1, q2⟩ := (HR.out.below b1).atEn (j := i) (by omega)
      injection hb' with hb'; injection hb' with h1 h2; subst h1 h2
      rw [he0] at he'; injection he' with he'; subst he'
      simp only [Nat.zero_add] at q0 q1 q2
      have HB1 := Lib.hid b1
      clear b1 he0 hPl HR
      go_wp2_with fail
      refine (hC _).mono ?_
      rintro e w2 ⟨rfl, b2⟩
      have HB2 := Lib.hid (below_then HB1.out b2)
      clear hC b2
      go_wp2_with fail
      refine (hF _).mono ?_
      rintro e w3 ⟨rfl, rfl⟩
      rw [hf]
      go_wp2
      go_ret
      exact ⟨rfl, HD.out _ HB2.out⟩
    | true =>
      rw [addX_ok hp he0 (by rw [hy]; exact hf)]
      have hGs := hG.set he0 hx.1 (by rw [hy]; exact hf)
      have hfl : y + x ≤ 9223372036854775808 := fits_le hf
      have hw2 : IntKind.u64.wrap (e0.2.1 + x) = e0.2.1 + x := IntWalk.u64_in _ ⟨by omega, by omega⟩
      have HD := Lib.hid (fun (W : World) (hb : Below w.heap.size w W) => show DidPX PXs col k w g _ _ from
        ⟨col, ⟨hGs, _, c, ((HB.below ht hb).bump (ht.size hb.size) he0 x).1⟩, (StepC.below ht hb).trans ((HB.below ht hb).bump (ht.size hb.size) he0 x).2⟩)
      have HFz := Lib.hid (fun (W : World) (hb : Below w.heap.size w W) => (HB.below ht hb).row.own.free (i * 3 + 1))
      have HR := Lib.hid R
      obtain ⟨v, hv⟩ : ∃ v, e0.2.1 + x = v := ⟨_, rfl⟩
      rw [hv] at hw2 HD
      clear HB hG R hp hGs
      go_enter Try.func13, Try.ntmps13
      go_wp2_with fail
      refine hPl.mono ?_
      rintro e w1 ⟨rfl, b1⟩
      have z := (cellB x1 b1).1
      obtain ⟨b', o', e', hb', he', q0, q1, q2⟩ := (HR.out.below b1).atEn (j := i) (by omega)
      injection hb' with hb'; injection hb' with h1 h2; subst h1 h2
      rw [he0] at he'; injection he' with he'; subst he'
      simp only [Nat.zero_add] at q0 q1 q2
      have HB1 := Lib.hid b1
      clear b1 hPl
      go_wp2_with fail
      refine (hC _).mono ?_
      rintro e w2 ⟨rfl, b2⟩
      have b12 := below_then HB1.out b2
      obtain ⟨b', o', e', hb', he', r0, r1, r2⟩ := (HR.out.below b12).atEn (j := i) (by omega)
      injection hb' with hb'; injection hb' with h1 h2; subst h1 h2
      rw [he0] at he'; injection he' with he'; subst he'
      simp only [Nat.zero_add] at r0 r1 r2
      have fz := HFz.out _ b12
      have HB2 := Lib.hid b12
      clear hC b2 b12 q0 q1 q2 z HFz HR he0
      go_wp2_with fail
      refine (hF _).mono ?_
      rintro e w3 ⟨rfl, rfl⟩
      rw [hf]
      go_wp2
      go_ret
      exact ⟨rfl, HD.out _ HB2.out⟩
set_option maxHeartbeats 4000000 in
theorem xTake (H : PXs col k w g t) (ht : Tidy col w) (s : ByteArray) :
    Calls Try.prog 10 #[.pointer (some ⟨g, 0, none⟩), .string s] w fun e w' => e = .returned (.tuple #[.agg (VE (t.get s).1), .bool (t.get s).2]) ∧ DidPX PXs col k w g (t.take s) w' := by
  have s1 := StepC.new ht (.cells #[.string ⟨#[]⟩, .int .u64 0, .int .u64 0] 32) (k + 16) (fun _ => False)
  have hk : 1 ≤ k := by obtain ⟨_, _, _, h⟩ := H; exact h.k1
  have H1 := H.keep s1 (fun _ _ h => h)
  have S1 := s1.mono (P' := Rng k) (fun c hc => hc.elim)
  have X1 : BoxC (dye col (some w.heap.size) (k + 16)) (w.alloc (.cells #[.string ⟨#[]⟩, .int .u64 0, .int .u64 0] 32)) w.heap.size (k + 16) (VE zeroE) 32 := ⟨heap_alloc_new w _, dye_of⟩
  have hGd := H.1
  have T1 := S1.tidy
  obtain ⟨_, A, c, HB⟩ := H1
  obtain ⟨c1, hc1⟩ : ∃ c1, dye col (some w.heap.size) (k + 16) = c1 := ⟨_, rfl⟩
  rw [hc1] at X1 T1 S1 HB
  clear hc1 H s1
  have hG6 : t.l.length ≤ 64 := by have := hGd.len; have := hGd.n1; omega
  have x1 := HB.box.cell 0 rfl
  have hP := xfind x1 HB.row.own.reads hGd.srt hG6 s
  obtain ⟨W1, hW1⟩ : ∃ W1, W1 = w.alloc (.cells #[.string ⟨#[]⟩, .int .u64 0, .int .u64 0] 32) := ⟨_, rfl⟩
  obtain ⟨G, hG⟩ : ∃ G, w.heap.size = G := ⟨_, rfl⟩
  have x1r := x1
  rw [← hW1] at X1 T1 hP x1 HB S1
  rw [hG] at X1
  have hGd2 := hGd.take s
  cases ha : atK t.l s with
  | false =>
    have hp := atK_no hGd.srt ha
    rw [ha] at hP
    rw [show t.get s = (zeroE, false) by unfold ExSt.get; rw [hp], show t.take s = t by unfold ExSt.take; rw [hp]]
    clear hp hGd2
    go_enter Try.func10, Try.ntmps10
    go_wp2_with fail
    rw [← hW1]
    clear hW1
    refine hP.mono ?_
    rintro e w2 ⟨rfl, b2⟩
    have S2 := S1.trans (StepC.below T1 b2)
    have X2 := X1.keep (P := fun _ => False) (StepC.below T1 b2) (fun h => h)
    obtain ⟨M, S3, hX, y0, y1, y2, f0, f1, f2⟩ := (HB.below T1 b2).boxed S2 X2 (by omega) zeroE
    have HX := Lib.hid hX
    have HD := Lib.hid (show DidPX PXs col k w g t _ from ⟨_, ⟨hGd, _, _, M⟩, S3⟩)
    have y0' : w2.cell? ⟨G, 0, none⟩ = some (.string ⟨#[]⟩) := y0
    have y1' : w2.cell? ⟨G, 1, none⟩ = some (.int .u64 0) := y1
    have y2' : w2.cell? ⟨G, 2, none⟩ = some (.int .u64 0) := y2
    clear X1 X2 S1 S2 S3 M HB hP T1 b2 hG x1 x1r y0 y1 y2 hX
    go_wp2
    refine bodyPost_ret (results_cell_row2 rfl _ _ G _ _ (0, 0) _ rfl HX.out Try.underlying32 rfl (by kernel_rfl)) rfl ?_
    exact ⟨rfl, HD.out⟩
  | true =>
    obtain ⟨e0, he0, -, hp, hil⟩ := atK_yes ha
    rw [ha] at hP
    generalize placeM t.l s = i at *
    have hT : t.take s = { t with l := withoutE t.l i } := by unfold ExSt.take; rw [hp]
    rw [hT] at hGd2 ⊢
    rw [show t.get s = (e0, true) from getX_some hp he0]
    obtain ⟨n, hn⟩ : ∃ n, t.l.length = n := ⟨_, rfl⟩
    obtain ⟨b, rfl, _⟩ := HB.row.own.head (by omega)
    have x1s : W1.cell? ⟨g, 0, none⟩ = some (.slice (some ⟨b, 0, none⟩) n c) := by rw [← hn]; exact HB.box.cell 0 rfl
    have hin : i < n := by omega
    have hiI : (i : Int) < (n : Int) := by omega
    have hi0 : ¬ (i : Int) < 0 := by omega
    have hwr : IntKind.i64.wrap ((i : Int) + 1) = ((i + 1 : Nat) : Int) := by rw [IntKind.wrap_i64]; omega
    have hlw : (withoutE t.l i).length = n - 1 := by have := (without_at he0).1; omega
    have HBh := Lib.hid HB
    have HXh := Lib.hid (And.intro X1 (And.intro T1 S1))
    have HGd := Lib.hid hGd2
    have hR := HB.row.own.reads
    have hcap := hR.cap
    have hmax := hR.max
    rw [hn] at hcap
    clear HB X1 T1 S1 hGd2 hT hp x1 x1r hR
    go_enter Try.func10, Try.ntmps10
    go_wp2_with fail
    rw [← hW1]
    clear hW1
    refine hP.mono ?_
    rintro e w2 ⟨rfl, b2⟩
    obtain ⟨X1, T1, S1⟩ := HXh.out
    have b3 : Below W1.heap.size W1 (w2.alloc (.cells (VE e0) 32)) := b2.alloc b2.size _
    have H3 := HBh.out.below T1 b3
    have T3 := T1.size b3.size
    have S3 := S1.trans (StepC.below T1 b3)
    have X3 := X1.keep (P := fun _ => False) (StepC.below T1 b3) (fun h => h)
    have X6 : BoxC c1 (w2.alloc (.cells (VE e0) 32)) w2.heap.size 0 (VE e0) 32 := ⟨heap_alloc_new w2 _, (T1.size b2.size) _ (Nat.le_refl _)⟩
    have x2 := (cellB x1s b2).1
    have x3 := (cellB x1s b3).1
    obtain ⟨b', o', e5, hb', he', q0, q1, q2⟩ := (HBh.out.below T1 b2).row.own.reads.atEn (j := i) (by omega)
    injection hb' with hb'; injection hb' with h1 h2; subst h1 h2
    rw [he0] at he'; injection he' with he'; subst he'
    simp only [Nat.zero_add] at q0 q1 q2
    have hO := H3.row.own
    rw [hn] at hO
    have hDl := delete_any hO hin
    have HH3 := Lib.hid (And.intro H3 (And.intro T3 (And.intro S3 (And.intro X3 X6))))
    clear hO H3 T3 S3 X3 X6 X1 T1 S1 b2 b3 hP he0
    go_wp2_with fail
    rw [show ((i + 1 : Nat) : Int) = (i : Int) + 1 by omega] at hDl
    refine hDl.mono ?_
    rintro e w4 ⟨rfl, O4, G4⟩
    obtain ⟨H3, T3, S3, X3, X6⟩ := HH3.out
    have hO' : OwnK kEn w4 (.slice (some ⟨b, 0, none⟩) (n - 1) c) (withoutE t.l i) := O4
    obtain ⟨c4, H4, S4⟩ := H3.grow T3 hlw hO' G4 (.inl rfl)
    have B4 := H3.box.keep (StepC.grownBy (P := fun d => d = k + 1) T3 G4 fun q hq => H3.row.col q hq) (by omega)
    have f0 := B4.free 0
    have q4 : ∃ u, w4.cell? ⟨g, 0, none⟩ = some u := ⟨_, B4.cell 0 rfl⟩
    obtain ⟨u4, q4⟩ := q4
    have W5 : ∃ W5, W5 = w4.setCell ⟨g, 0, none⟩ (.slice (some ⟨b, 0, none⟩) (n - 1) c) := ⟨_, rfl⟩
    clear W5 B4
    have hk16 : ¬ Rng k (k + 16) := fun h => by have := h.2; omega
    have X5 := X3.keep S4 hk16
    have X7 := X6.keep S4 (fun h => by have := h.1; omega)
    have S5 := S3.trans S4
    have v0 : (w4.setCell ⟨g, 0, none⟩ (.slice (some ⟨b, 0, none⟩) (n - 1) c)).cell? ⟨w2.heap.size, 0, none⟩ = some (.string e0.1) := X7.cell 0 rfl
    have v1 : (w4.setCell ⟨g, 0, none⟩ (.slice (some ⟨b, 0, none⟩) (n - 1) c)).cell? ⟨w2.heap.size, 1, none⟩ = some (.int .u64 e0.2.1) := X7.cell 1 rfl
    have v2 : (w4.setCell ⟨g, 0, none⟩ (.slice (some ⟨b, 0, none⟩) (n - 1) c)).cell? ⟨w2.heap.size, 2, none⟩ = some (.int .u64 e0.2.2) := X7.cell 2 rfl
    obtain ⟨M, S6, hX, y0, y1, y2, f1, f2, f3⟩ := H4.boxed S5 X5 (by omega) e0
    have HX := Lib.hid hX
    have HD := Lib.hid (show DidPX PXs col k w g _ _ from ⟨_, ⟨HGd.out, _, _, M⟩, S6⟩)
    have y0' : (w4.setCell ⟨g, 0, none⟩ (.slice (some ⟨b, 0, none⟩) (n - 1) c)).cell? ⟨G, 0, none⟩ = some (.string ⟨#[]⟩) := y0
    have y1' : (w4.setCell ⟨g, 0, none⟩ (.slice (some ⟨b, 0, none⟩) (n - 1) c)).cell? ⟨G, 1, none⟩ = some (.int .u64 0) := y1
    have y2' : (w4.setCell ⟨g, 0, none⟩ (.slice (some ⟨b, 0, none⟩) (n - 1) c)).cell? ⟨G, 2, none⟩ = some (.int .u64 0) := y2
    clear H3 T3 S3 X3 X6 hO' H4 S4 X5 X7 S5 M S6 hX HH3 hDl O4 G4 y0 y1 y2 x3 x2 q0 q1 q2
    go_wp2
    refine bodyPost_ret (results_cell_row2 rfl _ _ G _ _ (0, 0) _ rfl HX.out Try.underlying32 rfl (by kernel_rfl)) rfl ?_
    exact ⟨rfl, HD.out⟩
end
end Go.Proofs.Ytjkomnjkolggnaa
