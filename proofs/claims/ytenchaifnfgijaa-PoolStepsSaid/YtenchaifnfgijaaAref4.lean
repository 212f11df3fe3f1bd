/- The specified arena in memory: Alloc. Conditions: none beyond those typed. -/
import Derived.Test.YtenchaifnfgijaaAref3
import Derived.Test.YtenchaifnfgijaaBm
import Derived.Deep.RegionLaw
namespace Go.Proofs.Ytenchaifnfgijaa
open Go.ChangeShapes Go.WideShapes Go.ChangeAt Go.RowKit
set_option linter.unusedVariables false
set_option linter.unusedSimpArgs false
set_option maxRecDepth 100000

theorem K_one : 0 < kI.k := kI.pos
section
variable {P : Nat → Prop} {col col' : Col} {w w' : World} {k g : Nat} {x : ASt} {AL : Option Addr} {cL : Nat} {vS vF vN : Value} {R : List RSl}
/-- The next index of a class is written. -/
theorem RefB.setN {bN n cN c v : Nat} (h : RefB col k w g x AL cL vS vF (.slice (some ⟨bN, 0, none⟩) n cN) R) (ht : Tidy col w) (hc : c < x.nx.length) {u : Int} (hu : u = (v : Int)) :
    RefB col k (w.setCell ⟨bN, c, none⟩ (.int .i64 u)) g { x with nx := x.nx.set c v } AL cL vS vF (.slice (some ⟨bN, 0, none⟩) n cN) R ∧ StepC (fun c => c = k + 3) col w col (w.setCell ⟨bN, c, none⟩ (.int .i64 u)) := by
  subst hu
  have hcl := h.nx.col.of
  have hs : StepC (fun c => c = k + 3) col w col (w.setCell ⟨bN, c, none⟩ (.int .i64 (v : Int))) := StepC.set ht hcl _
  have h0 : ¬ (0 = k + 3) := by omega
  have hg : (ints x.nx)[c]? = some ((x.nx[c] : Nat) : Int) := by simp [ints, hc]
  have hn := h.nx.set (j := c) (i := 0) (a' := (v : Int)) (u := .int .i64 (v : Int)) hg K_one rfl
  rw [show c * kI.k + 0 = c by simp [kI]] at hn
  refine ⟨⟨h.box.keep hs (by omega), h.cls.keep hs h0, h.sl.keep hs (by omega), h.fst, fun r hr => (h.tells r hr).keep hs h0, h.fr.keep hs (by omega), ?_, h.k1⟩, hs⟩
  have e : ints (x.nx.set c v) = (ints x.nx).set c (v : Int) := by simp [ints, List.map_set]
  show OwnKc kI col _ (k + 3) _ (ints (x.nx.set c v))
  rw [e]; exact hn
/-- The slots have got a row in memory. -/
theorem RefB.putS {v : Value} {s : List Sl} {R' : List RSl} (h : RefB col k w g x AL cL vS vF vN R) (ht : Tidy col w) (hs : StepC (fun c => c = k + 1) col w (dye col v.ownBlock (k + 1)) w') (ho : OwnK kS w' v R')
    (hf : R'.map Prod.fst = s) (hr : ∀ r ∈ R', r ∈ R ∨ (r.2.2.1 = 0 ∧ r.2.2.2 = 0 ∧ r.1.b = [])) :
    RefB (dye col v.ownBlock (k + 1)) k (w'.setCell ⟨g, 1, none⟩ v) g { x with s := s } AL cL v vF vN R' ∧ StepC (Rng k) col w (dye col v.ownBlock (k + 1)) (w'.setCell ⟨g, 1, none⟩ v) := by
  have h0 : ¬ (0 = k + 1) := by omega
  have h1 := h.box.keep hs (by omega)
  have hs2 : StepC (fun c => c = k) (dye col v.ownBlock (k + 1)) w' (dye col v.ownBlock (k + 1)) (w'.setCell ⟨g, 1, none⟩ v) := StepC.set hs.tidy h1.col _
  have hk := h.k1
  have h00 : ¬ (0 = k) := by omega
  have h3 := h1.put 1 v
  refine ⟨⟨by simpa using h3, (h.cls.keep hs h0).keep hs2 h00, (OwnKc.mk' kS ho).keep hs2 (by omega), hf, fun r hm => ?_, (h.fr.keep hs (by omega)).keep hs2 (by omega), (h.nx.keep hs (by omega)).keep hs2 (by omega), h.k1⟩,
    (hs.mono fun c e => by subst e; exact ⟨by omega, by omega⟩).trans (hs2.mono fun c e => by subst e; exact ⟨by omega, by omega⟩)⟩
  rcases hr r hm with hm | ⟨e1, e2, e3⟩
  · exact ((h.tells r hm).keep hs h0).keep hs2 h00
  · rw [e1, e2, e3]; exact ⟨Rd.nil _ _ _ (Nat.zero_le _), fun h => by omega⟩
/-- A box for a result, of the object's own colours. -/
theorem RefB.tmp (h : RefB col k w g x AL cL vS vF vN R) (ht : Tidy col w) (cs : Array Value) (t : TypeId) :
    RefB (dye col (some w.heap.size) (k + 15)) k (w.alloc (.cells cs t)) g x AL cL vS vF vN R ∧ StepC (Rng k) col w (dye col (some w.heap.size) (k + 15)) (w.alloc (.cells cs t)) ∧ BoxC (dye col (some w.heap.size) (k + 15)) (w.alloc (.cells cs t)) w.heap.size (k + 15) cs t := by
  have hB : Below w.heap.size w (w.alloc (.cells cs t)) := (Below.refl _ _).alloc (Nat.le_refl _) _
  have hs : ∀ P, StepC P col w (dye col (some w.heap.size) (k + 15)) (w.alloc (.cells cs t)) := fun P => StepC.newRow ht hB fun b e => by injection e with e; subst e; exact ⟨Nat.le_refl _, by simp⟩
  exact ⟨h.keep (P := fun _ => False) (hs _) (fun _ _ h => h) (fun h => h), hs _, heap_alloc_new w _, dye_of⟩
theorem put3_step {g' : Nat} (ht : Tidy col w) (hc : P (col g')) (u0 u1 u2 : Value) : StepC P col w col (((w.setCell ⟨g', 0, none⟩ u0).setCell ⟨g', 1, none⟩ u1).setCell ⟨g', 2, none⟩ u2) := by
  have s0 := StepC.set (a := ⟨g', 0, none⟩) ht hc u0
  have s1 := StepC.set (a := ⟨g', 1, none⟩) s0.tidy hc u1
  exact (s0.trans s1).trans (StepC.set (a := ⟨g', 2, none⟩) s1.tidy hc u2)
/-- The result is written into its box. -/
theorem RefB.ret {g' : Nat} {a b c : Value} {t : TypeId} (h : RefB col k w g x AL cL vS vF vN R) (ht : Tidy col w) (X : BoxC col w g' (k + 15) #[a, b, c] t) (u0 u1 u2 : Value) :
    RefB col k (((w.setCell ⟨g', 0, none⟩ u0).setCell ⟨g', 1, none⟩ u1).setCell ⟨g', 2, none⟩ u2) g x AL cL vS vF vN R ∧ StepC (Rng k) col w col (((w.setCell ⟨g', 0, none⟩ u0).setCell ⟨g', 1, none⟩ u1).setCell ⟨g', 2, none⟩ u2) ∧
      (((w.setCell ⟨g', 0, none⟩ u0).setCell ⟨g', 1, none⟩ u1).setCell ⟨g', 2, none⟩ u2).heap[g']? = some (.cells #[u0, u1, u2] t (0, 0)) := by
  have hk := h.k1
  have s := put3_step (P := fun c => c = k + 15) ht X.col u0 u1 u2
  refine ⟨?_, put3_step ht (by rw [X.col]; exact ⟨by omega, by omega⟩) u0 u1 u2, by have := (((X.put 0 u0).put 1 u1).put 2 u2).heap; simpa using this⟩
  have h0 : ¬ (0 = k + 15) := by omega
  exact ⟨h.box.keep s (by omega), h.cls.keep s h0, h.sl.keep s (by omega), h.fst, fun r hr => (h.tells r hr).keep s h0, h.fr.keep s (by omega), h.nx.keep s (by omega), h.k1⟩
end
theorem last_step {s : List Sl} {f : List Nat} {c q j : Nat} {y : Sl} (hf : f[q]? = some j) (hs : s[j]? = some y) : lastAt s f c (q + 1) = if y.c = c then some q else lastAt s f c q := by
  show (if (f[q]?.bind fun j => s[j]?.map Sl.c) = some c then some q else lastAt s f c q) = _
  rw [hf]
  simp [hs]
set_option maxHeartbeats 4000000 in
theorem arAlloc {col : Col} {k g : Nat} {w : World} {x : ASt} (H : RefA col k w g x) (ht : Tidy col w) (z : Int) (hz : -9223372036854775808 ≤ z ∧ z ≤ 9223372036854775807) (hlt : x.t ≤ 1000000000) :
    Calls Try.prog 36 #[.pointer (some ⟨g, 0, none⟩), .int .i64 z] w
      fun e w' => e = .returned (.tuple #[.agg #[.int .i64 (x.alloc z).1.1.1, .int .i64 (x.alloc z).1.1.2.1, .int .i64 (x.alloc z).1.1.2.2], .int .i64 (x.alloc z).1.2]) ∧ Did col k w g (x.alloc z).2 w' := by
  obtain ⟨hG, AL, cL, vS, vF, vN, R, H⟩ := H
  have hGF := hG.alloc z
  have hl8 := hG.l.n8
  have hok := hG.l.ok
  have hk := H.k1
  obtain ⟨H1, S1, X1⟩ := H.tmp ht #[.int .i64 0, .int .i64 0, .int .i64 0] 81
  have ht1 := S1.tidy
  generalize hcol : dye col (some w.heap.size) (k + 15) = col1 at H1 S1 X1 ht1
  clear hcol
  have x0 := H1.cells.1
  go_enter Try.func36, Try.ntmps36
  go_wp2_with fail
  obtain ⟨W1, hW1⟩ : ∃ W1, W1 = w.alloc (.cells #[.int .i64 0, .int .i64 0, .int .i64 0] 81) := ⟨_, rfl⟩
  rw [← hW1] at H1 ht1 S1 X1 ⊢
  clear hW1 H x0
  refine (arFit _ _ _ x.L z W1 H1.cls.rd (by omega) hz (fun y hy => by have := hok y hy; omega)).mono ?_
  rintro e w2 ⟨rfl, hb2⟩
  have H2 := H1.below ht1 hb2
  have ht2 := ht1.size hb2.size
  have S2 := S1.trans (StepC.below ht1 hb2)
  have X2 : BoxC col1 w2 w.heap.size (k + 15) #[.int .i64 0, .int .i64 0, .int .i64 0] 81 := X1.keep (P := fun _ => False) (StepC.below ht1 hb2) (fun h => h)
  clear H1 ht1 S1 X1 hb2
  cases hfit : fitP x.L z with
  | none =>
    have HF := Lib.hid (show x.alloc z = (((0, 0, 0), 1), x.tick) by unfold ASt.alloc; rw [hfit])
    have y0 : w2.cell? ⟨w.heap.size, 0, none⟩ = some (.int .i64 0) := X2.cell 0 rfl
    have y1 : w2.cell? ⟨w.heap.size, 1, none⟩ = some (.int .i64 0) := X2.cell 1 rfl
    have y2 : w2.cell? ⟨w.heap.size, 2, none⟩ = some (.int .i64 0) := X2.cell 2 rfl
    have f0 := X2.free 0
    have f1 := X2.free 1
    have f2 := X2.free 2
    obtain ⟨H3, S3, h3⟩ := H2.ret ht2 X2 (.int .i64 0) (.int .i64 0) (.int .i64 0)
    have HH := Lib.hid H3
    clear hfit H2 hok H3
    simp only [fitR]
    go_wp2
    refine bodyPost_ret (results_cell_row2 rfl _ _ w.heap.size _ _ (0, 0) _ rfl h3 Try.underlying81 rfl (by kernel_rfl)) rfl ?_
    rw [HF.out] at hGF ⊢
    exact ⟨rfl, _, ⟨hGF, _, _, _, _, _, _, HH.out.time (x.t + 1)⟩, S2.trans S3⟩
  | some c =>
    have hcl := fit_lt hfit
    have HF := Lib.hid (show x.alloc z = x.take c by unfold ASt.alloc; rw [hfit])
    have hlen := H2.len
    have hfew := hG.few
    have hfewF := hG.fewF
    obtain ⟨AS, cS, rfl, hrS, _⟩ := H2.sl.own.form (n := x.s.length) hlen
    have hcapS := hrS.cap
    have hmaxS := hrS.max
    have hfl : (ints x.f).length = x.f.length := by simp [ints]
    obtain ⟨AF, cF, rfl, hrF, _⟩ := H2.fr.own.form hfl
    have hcapF := hrF.cap
    have hmaxF := hrF.max
    obtain ⟨x0, x1, x2, x3, x4⟩ := H2.cells
    have hcl2 : (c : Int) < (x.L.length : Int) := by omega
    clear hfit hok x4
    simp only [fitR]
    go_wp2
    go_loopw [8] (fun i wr => ∃ m j : Nat, m ≤ x.f.length ∧ i = .int .i64 ((m : Int) - 1) ∧ lastAt x.s x.f c x.f.length = lastAt x.s x.f c m ∧ wr = w2.drewN j) (fun i _ => (intOf i + 1).toNat)
    case atStart => exact ⟨x.f.length, 0, Nat.le_refl _, by go_num, rfl, rfl⟩
    case round =>
      obtain ⟨m, j, hm, rfl, hlast, rfl⟩ := hrel
      cases m with
      | zero =>
        have hnone : lastAt x.s x.f c x.f.length = none := hlast
        have hnl : (ints x.nx).length = x.L.length := by simp [ints, hG.nx]
        obtain ⟨AN, cN, rfl, hrN, _⟩ := H2.nx.own.form hnl
        have hcapN := hrN.cap
        have hmaxN := hrN.max
        obtain ⟨bN, rfl, hbN⟩ := H2.nx.own.head (by omega)
        obtain ⟨v, hv⟩ : ∃ v, x.nx[c]? = some v := ⟨_, List.getElem?_eq_getElem (by have := hG.nx; omega)⟩
        have hvi : (ints x.nx)[c]? = some (v : Int) := by simp [ints, hv]
        have n0 := H2.nx.own.cell (j := c) (i := 0) hvi rfl
        rw [show c * kI.k + 0 = c by simp [kI]] at n0
        have fN := H2.nx.own.free c
        have hv6 := hG.nxle hv
        obtain ⟨bL, oL, z1, z2, rfl, hz2, hzm, hbL, l0, l1⟩ := H2.cls.rd.atC hcl
        have hcapL := H2.cls.rd.cap
        have hmaxL := H2.cls.rd.max
        have HV := Lib.hid hv
        have HZ := Lib.hid hz2
        have HNO := Lib.hid hnone
        have hzb := hG.l.ok _ hzm
        simp only at hzb
        have HH2 := Lib.hid H2
        clear hlast hrN hrS hrF hnone hvi hv hz2 hzm l0 H2
        by_cases hfull : (v : Int) = z2
        · have HT := Lib.hid (show x.take c = (((0, 0, 0), 7), x.tick) by
            unfold ASt.take; rw [HNO.out]; simp only; rw [getD_at HV.out, getD_at HZ.out, if_pos hfull])
          go_wp2
          go_quiet (fail)
          have hb := below_drewN (Below.refl w2.heap.size w2) (j + nq)
          have H3 := HH2.out.below ht2 hb
          have S3 := S2.trans (StepC.below ht2 hb)
          have ht3 := S3.tidy
          have X3 : BoxC col1 (w2.drewN (j + nq)) w.heap.size (k + 15) #[.int .i64 0, .int .i64 0, .int .i64 0] 81 := ⟨X2.heap, X2.col⟩
          have y0 : w2.cell? ⟨w.heap.size, 0, none⟩ = some (.int .i64 0) := X2.cell 0 rfl
          have y1 : w2.cell? ⟨w.heap.size, 1, none⟩ = some (.int .i64 0) := X2.cell 1 rfl
          have y2 : w2.cell? ⟨w.heap.size, 2, none⟩ = some (.int .i64 0) := X2.cell 2 rfl
          have f0 : w2.frozen? ⟨w.heap.size, 0, none⟩ = false := X2.free 0
          have f1 : w2.frozen? ⟨w.heap.size, 1, none⟩ = false := X2.free 1
          have f2 : w2.frozen? ⟨w.heap.size, 2, none⟩ = false := X2.free 2
          obtain ⟨H4, S4, h4⟩ := H3.ret ht3 X3 (.int .i64 0) (.int .i64 0) (.int .i64 0)
          have HH := Lib.hid H4
          clear H3 H4
          go_wp2
          refine bodyPost_ret (results_cell_row2 rfl _ _ w.heap.size _ _ (0, 0) _ rfl h4 Try.underlying81 rfl (by kernel_rfl)) rfl ?_
          rw [HF.out, HT.out] at hGF ⊢
          exact ⟨rfl, _, ⟨hGF, _, _, _, _, _, _, HH.out.time (x.t + 1)⟩, S3.trans S4⟩
        · have HT := Lib.hid (show x.take c = ((((c : Int), (v : Int), 1), 0), { x with s := x.s ++ [⟨c, v, 1, true, []⟩], nx := x.nx.set c (v + 1), t := x.t + 1 }) by
            unfold ASt.take; rw [HNO.out]; simp only; rw [getD_at HV.out, getD_at HZ.out, if_neg hfull])
          go_wp2
          go_quiet (fail)
          have hb := below_drewN (below_drewN (Below.refl w2.heap.size w2) j) nq
          have H3 := HH2.out.below ht2 hb
          have S3 := S2.trans (StepC.below ht2 hb)
          have ht3 := S3.tidy
          have X3 : BoxC col1 ((w2.drewN j).drewN nq) w.heap.size (k + 15) #[.int .i64 0, .int .i64 0, .int .i64 0] 81 := ⟨X2.heap, X2.col⟩
          have x3' : ((w2.drewN j).drewN nq).cell? ⟨g, 3, none⟩ = _ := x3
          have n0' : ((w2.drewN j).drewN nq).cell? ⟨bN, c, none⟩ = _ := n0
          have fN' : ((w2.drewN j).drewN nq).frozen? ⟨bN, c, none⟩ = _ := fN
          obtain ⟨W3, hW3⟩ : ∃ W3, W3 = (w2.drewN j).drewN nq := ⟨_, rfl⟩
          rw [← hW3] at H3 S3 ht3 X3 x3' n0' fN' ⊢
          clear hW3 HH2 S2 ht2 X2 x0 x1 x2 x3 n0 fN l1 hb
          have y3 : ∀ o, (W3.alloc o).cell? ⟨g, 3, none⟩ = some (.slice (some ⟨bN, 0, none⟩) x.L.length cN) := fun o => c_keep x3' ((Below.refl _ _).alloc (Nat.le_refl _) o)
          have yn : ∀ o, (W3.alloc o).cell? ⟨bN, c, none⟩ = some (.int .i64 (v : Int)) := fun o => c_keep n0' ((Below.refl _ _).alloc (Nat.le_refl _) o)
          have yf : ∀ o, (W3.alloc o).frozen? ⟨bN, c, none⟩ = false := fun o => f_keep n0' fN' ((Below.refl _ _).alloc (Nat.le_refl _) o)
          have hB4 : Below W3.heap.size W3 (W3.alloc (.cells #[.int .i64 (c : Int), .int .i64 (v : Int), .int .i64 1] 81)) := (Below.refl _ _).alloc (Nat.le_refl _) _
          have ht4 := ht3.size hB4.size
          obtain ⟨H5, S5⟩ := (H3.below ht3 hB4).setN ht4 (c := c) (v := v + 1) (by rw [hG.nx]; exact hcl) (u := (v : Int) + 1) (by omega)
          have S5' := (S3.trans (StepC.below ht3 hB4)).trans (S5.mono fun c e => by subst e; exact ⟨by omega, by omega⟩)
          have ht5 := S5.tidy
          have XX : BoxC col1 (W3.alloc (.cells #[.int .i64 (c : Int), .int .i64 (v : Int), .int .i64 1] 81)) W3.heap.size 0 #[.int .i64 (c : Int), .int .i64 (v : Int), .int .i64 1] 81 := ⟨heap_alloc_new W3 _, ht3 _ (Nat.le_refl _)⟩
          have X5 := (X3.keep (P := fun _ => False) (StepC.below ht3 hB4) (fun h => h)).keep (P := fun c => c = k + 3) S5 (by omega)
          have XX5 := XX.keep (P := fun c => c = k + 3) S5 (by omega)
          clear S5 S3 H3 ht3 X3 XX
          go_wp2
          obtain ⟨W5, hW5⟩ : ∃ W5, W5 = (W3.alloc (.cells #[.int .i64 (c : Int), .int .i64 (v : Int), .int .i64 1] 81)).setCell ⟨bN, c, none⟩ (.int .i64 ((v : Int) + 1)) := ⟨_, rfl⟩
          rw [← hW5] at H5 S5' ht5 X5 XX5 ⊢
          clear hW5 y3 yn yf hB4 ht4 x3' n0' fN'
          have hBd : Below W5.heap.size W5 (W5.drew.alloc (.cells #[.int .i64 (c : Int), .int .i64 (v : Int), .int .i64 1, .bool true, .slice none 0 0] 98)) := bd1 _ _
          have H6 := H5.below ht5 hBd
          have ht6 := ht5.size hBd.size
          have S6 := S5'.trans (StepC.below ht5 hBd)
          have X6 := X5.keep (P := fun _ => False) (StepC.below ht5 hBd) (fun h => h)
          have XX6 := XX5.keep (P := fun _ => False) (StepC.below ht5 hBd) (fun h => h)
          have rd6 : RdG kS (W5.drew.alloc (.cells #[.int .i64 (c : Int), .int .i64 (v : Int), .int .i64 1, .bool true, .slice none 0 0] 98)) (some ⟨W5.heap.size, 0, none⟩) 1 1 [((⟨c, v, 1, true, []⟩, none, 0, 0) : RSl)] := RdG.one' kS rfl ((⟨c, v, 1, true, []⟩, none, 0, 0) : RSl)
          have x1 := H5.cells.2.1
          have e0 : W5.cell? ⟨W3.heap.size, 0, none⟩ = some (.int .i64 (c : Int)) := XX5.cell 0 rfl
          have e1 : W5.cell? ⟨W3.heap.size, 1, none⟩ = some (.int .i64 (v : Int)) := XX5.cell 1 rfl
          have e2 : W5.cell? ⟨W3.heap.size, 2, none⟩ = some (.int .i64 1) := XX5.cell 2 rfl
          have y1 : ∀ o, (W5.alloc o).cell? ⟨g, 1, none⟩ = some (.slice AS x.s.length cS) := fun o => c_keep x1 ((Below.refl _ _).alloc (Nat.le_refl _) o)
          have hby : R.length + 1 ≤ 1000000000 := by omega
          have hk1 : ¬ (k = k + 1) := by omega
          have hRl : (R ++ [((⟨c, v, 1, true, []⟩, none, 0, 0) : RSl)]).length = x.s.length + 1 := by simp [hlen]
          have hRf : (R ++ [((⟨c, v, 1, true, []⟩, none, 0, 0) : RSl)]).map Prod.fst = x.s ++ [⟨c, v, 1, true, []⟩] := by have := H6.fst; simp at this; simp [this]
          have hRm : ∀ r ∈ R ++ [((⟨c, v, 1, true, []⟩, none, 0, 0) : RSl)], r ∈ R ∨ (r.2.2.1 = 0 ∧ r.2.2.2 = 0 ∧ r.1.b = []) := fun r hr => by
            rcases List.mem_append.1 hr with h | h
            · exact .inl h
            · rw [List.mem_singleton.1 h]; exact .inr ⟨rfl, rfl, rfl⟩
          have oS := H6.sl.own
          have HH6 := Lib.hid H6
          clear H5 S5' X5 XX5 hBd H6
          go_region_law (refine step_appG kS rfl (.tmp 130) (.tmp 133) rfl _ R rfl _ 1 1 [((⟨c, v, 1, true, []⟩, none, 0, 0) : RSl)] rfl oS rd6 hby ?_; intro v7 w7 O7 G7 hat7; have S7 := StepC.app (P := fun c => c = k + 1) ht6 G7 HH6.out.sl.col rfl hat7 O7.lt; have B7 := HH6.out.box.keep S7 hk1; have q1 : w7.cell? ⟨g, 1, none⟩ = some (.slice AS x.s.length cS) := B7.cell 1 rfl; have q2 := B7.free 1; obtain ⟨A7, c7, rfl, _, _⟩ := O7.form hRl)
          all_goals
            obtain ⟨H8, S8⟩ := HH6.out.putS ht6 S7 O7 hRf hRm
            have s8 : StepC (fun c => c = k) (dye col1 (Value.slice A7 (x.s.length + 1) c7).ownBlock (k + 1)) w7 (dye col1 (Value.slice A7 (x.s.length + 1) c7).ownBlock (k + 1)) (w7.setCell ⟨g, 1, none⟩ (.slice A7 (x.s.length + 1) c7)) := StepC.set S7.tidy B7.col _
            have X8 := (X6.keep S7 (by omega)).keep s8 (by omega)
            have XX8 := (XX6.keep S7 (by omega)).keep s8 (by omega)
            have S9 := S6.trans S8
            have ht8 := S9.tidy
            clear s8 S8 S7 B7 q1 q2 G7 O7 hat7 y1 e0 e1 e2 x1
            obtain ⟨W8, hW8⟩ : ∃ W8, W8 = w7.setCell ⟨g, 1, none⟩ (.slice A7 (x.s.length + 1) c7) := ⟨_, rfl⟩
            rw [← hW8] at H8 X8 XX8 S9 ht8 ⊢
            clear hW8
            have e0 : W8.cell? ⟨W3.heap.size, 0, none⟩ = some (.int .i64 (c : Int)) := XX8.cell 0 rfl
            have e1 : W8.cell? ⟨W3.heap.size, 1, none⟩ = some (.int .i64 (v : Int)) := XX8.cell 1 rfl
            have e2 : W8.cell? ⟨W3.heap.size, 2, none⟩ = some (.int .i64 1) := XX8.cell 2 rfl
            have y0 : W8.cell? ⟨w.heap.size, 0, none⟩ = some (.int .i64 0) := X8.cell 0 rfl
            have y1 : W8.cell? ⟨w.heap.size, 1, none⟩ = some (.int .i64 0) := X8.cell 1 rfl
            have y2 : W8.cell? ⟨w.heap.size, 2, none⟩ = some (.int .i64 0) := X8.cell 2 rfl
            have f0 : W8.frozen? ⟨w.heap.size, 0, none⟩ = false := X8.free 0
            have f1 : W8.frozen? ⟨w.heap.size, 1, none⟩ = false := X8.free 1
            have f2 : W8.frozen? ⟨w.heap.size, 2, none⟩ = false := X8.free 2
            obtain ⟨HX, SX, hX⟩ := H8.ret ht8 X8 (.int .i64 (c : Int)) (.int .i64 (v : Int)) (.int .i64 1)
            have HHX := Lib.hid HX
            clear H8 HX HH6 S6 X6 XX6
            go_wp2
            refine bodyPost_ret (results_cell_row2 rfl _ _ w.heap.size _ _ (0, 0) _ rfl hX Try.underlying81 rfl (by kernel_rfl)) rfl ?_
            rw [HF.out, HT.out] at hGF ⊢
            exact ⟨rfl, _, ⟨hGF, _, _, _, _, _, _, HHX.out.time (x.t + 1)⟩, S9.trans SX⟩
      | succ q =>
        have hqf : q < x.f.length := by omega
        obtain ⟨jf, hjf⟩ : ∃ jf, x.f[q]? = some jf := ⟨_, List.getElem?_eq_getElem hqf⟩
        have hjfl := hG.fin (List.mem_of_getElem? hjf)
        obtain ⟨⟨y, A', n', c'⟩, hr⟩ : ∃ r, R[jf]? = some r := ⟨_, List.getElem?_eq_getElem (by omega)⟩
        have hy := H2.at_ hr
        obtain ⟨bF, rfl, hbF⟩ := H2.fr.own.head (by omega)
        obtain ⟨bS, rfl, hbS⟩ := H2.sl.own.head (by omega)
        have hfi : (ints x.f)[q]? = some (jf : Int) := by simp [ints, hjf]
        have a0 := H2.fr.own.cell (j := q) (i := 0) hfi rfl
        rw [show q * kI.k + 0 = q by simp [kI]] at a0
        obtain ⟨s0, s1, s2, s3, s4⟩ := kS_cells H2.sl.own hr
        have hstep := last_step hjf hy (c := c)
        have hqi : (q : Int) < (x.f.length : Int) := by omega
        have hji : (jf : Int) < (x.s.length : Int) := by omega
        have HLA := Lib.hid hlast
        have HY := Lib.hid hy
        have HJ := Lib.hid hjf
        have HRR := Lib.hid hr
        have HST := Lib.hid hstep
        have HH2 := Lib.hid H2
        have H2F := Lib.hid hrF
        have hya := (hG.sl y (List.mem_of_getElem? hy)).2.2.2.1
        clear hlast hy hr hjf hstep hfi hrS hrF H2
        by_cases hyc : y.c = c
        · have HF2 := Lib.hid (show lastAt x.s x.f c x.f.length = some q by rw [HLA.out, HST.out, if_pos hyc])
          have HT := Lib.hid (show x.take c = ((((y.c : Int), (y.i : Int), ((y.a : Int) + 1)), 0), { x with s := ((x.s.set jf { y with a := y.a + 1 }).set jf { y with a := y.a + 1, u := true }).set jf { y with a := y.a + 1, u := true, b := [] }, f := x.f.eraseIdx q, t := x.t + 1 }) by
            have e : ((x.s.set jf { y with a := y.a + 1 }).set jf { y with a := y.a + 1, u := true }).set jf { y with a := y.a + 1, u := true, b := [] } = x.s.modify jf Sl.again := by
              rw [List.set_set, List.set_set]; exact set_modify Sl.again HY.out
            unfold ASt.take; rw [HF2.out]; simp only; rw [getD_at HJ.out, e, List.getElem?_modify, HY.out]
            simp [Sl.again, Sl.h])
          subst hyc
          have fS2 := HH2.out.sl.own.free (jf * 5 + 2)
          have fS3 := HH2.out.sl.own.free (jf * 5 + 3)
          have fS4 := HH2.out.sl.own.free (jf * 5 + 4)
          go_wp2
          go_quiet (fail)
          have hb := below_drewN (below_drewN (Below.refl w2.heap.size w2) j) nq
          have H3 := HH2.out.below ht2 hb
          have S3 := S2.trans (StepC.below ht2 hb)
          have ht3 := S3.tidy
          have X3 : BoxC col1 ((w2.drewN j).drewN nq) w.heap.size (k + 15) #[.int .i64 0, .int .i64 0, .int .i64 0] 81 := ⟨X2.heap, X2.col⟩
          have b2 : ((w2.drewN j).drewN nq).cell? ⟨g, 2, none⟩ = _ := x2
          have b5 : ((w2.drewN j).drewN nq).cell? ⟨bS, jf * 5, none⟩ = _ := s0
          obtain ⟨W3, hW3⟩ : ∃ W3, W3 = (w2.drewN j).drewN nq := ⟨_, rfl⟩
          rw [← hW3] at H3 S3 ht3 X3 b2 b5 ⊢
          have rF3 := H3.fr.own.reads
          clear hW3 HH2 S2 ht2 X2 x0 x1 x2 x3 s0 s1 s2 s3 s4 fS2 fS3 fS4 a0 hb
          go_wp2
          have c2 := H3.cells.2.2.1
          have f2 := H3.box.free 2
          have y2 : ∀ o, (W3.alloc o).cell? ⟨g, 2, none⟩ = some (.slice (some ⟨bF, 0, none⟩) x.f.length cF) := fun o => c_keep b2 ((Below.refl _ _).alloc (Nat.le_refl _) o)
          have r1 := rF3.head (j := q) (by omega)
          have hby1 : ([] : List Int).length + q ≤ 1000000000 := by simp; omega
          obtain ⟨q1, hq1⟩ : ∃ q1 : Nat, q1 = q + 1 := ⟨_, rfl⟩
          have hwq : IntKind.i64.wrap ((q : Int) + 1) = (q1 : Int) := by rw [IntKind.wrap_i64]; omega
          obtain ⟨AD, hAD, r2⟩ : ∃ AD, (if cF = q1 then (some ⟨bF, 0, none⟩ : Option Addr) else some ⟨bF, q1, none⟩) = some AD ∧ RdG kI W3 (some AD) (x.f.length - q1) (cF - q1) ((ints x.f).drop q1) := by
            have h := rF3.dropIf (i := q1) (by omega)
            rw [show 0 + q1 * kI.k = q1 by simp [kI]] at h
            by_cases hc : cF = q1
            · rw [if_pos hc] at h ⊢; exact ⟨_, rfl, h⟩
            · rw [if_neg hc] at h ⊢; exact ⟨_, rfl, h⟩
          have hq2 : (q1 : Int) ≤ (x.f.length : Int) := by omega
          have hby2 : ([] ++ (ints x.f).take q).length + (x.f.length - q1) ≤ 1000000000 := by simp [ints]; omega
          have hOl : ([] ++ (ints x.f).take q ++ (ints x.f).drop q1).length = x.f.length - 1 := by simp [ints]; omega
          have HH3 := Lib.hid H3
          have hqc : (q : Int) ≤ (cF : Int) := by omega
          have HQ1 := Lib.hid hq1
          have hIE := Lib.hid (show [] ++ (ints x.f).take q ++ (ints x.f).drop q1 = ints (x.f.eraseIdx q) by
            rw [List.eraseIdx_eq_take_drop_succ, hq1]; simp [ints])
          have g2 := H3.box.lt
          clear H3 rF3 hq1
          go_region_law (first | (refine step_appN kI W3 rfl (.tmp 54) (.tmp 60) rfl _ [] rfl (some ⟨bF, 0, none⟩) q cF _ rfl (OwnK.empty kI rfl) (New.lit (Nat.le_refl _)) (bd1 _ _) (r1.below (bd1 _ _)) hby1 ?_; intro v4 w4 O4 N4 B4; have z2 := c_keep b2 B4) | (refine step_appN kI W3 rfl (.tmp 61) (.tmp 68) rfl _ _ rfl (some AD) (x.f.length - q1) (cF - q1) _ rfl O4 N4 B4 (r2.below B4) hby2 ?_; intro v5 w5 O5 N5 B5; obtain ⟨A5, c5, rfl, _, _⟩ := O5.form hOl; have z3 := c_keep b2 B5; have z4 := f_keep b2 f2 B5))
          all_goals
            rw [hIE.out] at O5
            have S5 : StepC (fun c => c = k + 2) col1 W3 (dye col1 (Value.slice A5 (x.f.length - 1) c5).ownBlock (k + 2)) w5 := StepC.newRow ht3 B5 fun b e => ⟨N5 b e, O5.lt b e⟩
            obtain ⟨H6, S6⟩ := HH3.out.putF ht3 S5 O5
            have X5 := X3.keep S5 (by omega)
            have B5g := HH3.out.box.keep S5 (by omega)
            have X6 := X5.keep (P := fun c => c = k) (StepC.set (a := ⟨g, 2, none⟩) S5.tidy B5g.col (.slice A5 (x.f.length - 1) c5)) (by omega)
            have S6' := S3.trans S6
            have ht6 := S6.tidy
            clear S5 S6 X5 B5g O5 N5 B5 z3 z4 O4 N4 B4 z2
            obtain ⟨W6, hW6⟩ : ∃ W6, W6 = w5.setCell ⟨g, 2, none⟩ (.slice A5 (x.f.length - 1) c5) := ⟨_, rfl⟩
            rw [← hW6] at H6 X6 S6' ht6 ⊢
            clear hW6
            obtain ⟨s0, s1, s2, s3, s4⟩ := kS_cells H6.sl.own HRR.out
            have fS2 := H6.sl.own.free (jf * 5 + 2)
            have fS3 := H6.sl.own.free (jf * 5 + 3)
            have fS4 := H6.sl.own.free (jf * 5 + 4)
            have hne : ¬ w.heap.size = bS := by rintro rfl; have h1 := X6.col; have h2 := H6.sl.col.of; omega
            have hne' : ¬ bS = w.heap.size := fun e => hne e.symm
            have t6 : Rd0 _ W6 A' n' c' y.b := H6.tells (y, A', n', c') (List.mem_of_getElem? HRR.out)
            obtain ⟨H7, S7⟩ := H6.setS ht6 HRR.out (q := 2) (r' := ({ y with a := y.a + 1 }, A', n', c')) (u := .int .i64 ((y.a : Int) + 1)) (by omega) rfl t6
            have X7 := X6.keep (P := fun c => c = k + 1) (StepC.set (a := ⟨bS, jf * 5 + 2, none⟩) ht6 H6.sl.col.of (.int .i64 ((y.a : Int) + 1))) (by omega)
            have hr7 : (R.set jf ({ y with a := y.a + 1 }, A', n', c'))[jf]? = some ({ y with a := y.a + 1 }, A', n', c') := by rw [List.getElem?_set_self (by omega)]
            have t7 : Rd0 _ _ A' n' c' y.b := H7.tells ({ y with a := y.a + 1 }, A', n', c') (List.mem_of_getElem? hr7)
            obtain ⟨H8, S8⟩ := H7.setS S7.tidy hr7 (q := 3) (r' := ({ y with a := y.a + 1, u := true }, A', n', c')) (u := .bool true) (by omega) rfl t7
            have X8 := X7.keep (P := fun c => c = k + 1) (StepC.set (a := ⟨bS, jf * 5 + 3, none⟩) S7.tidy H7.sl.col.of (.bool true)) (by omega)
            have hr8 : ((R.set jf ({ y with a := y.a + 1 }, A', n', c')).set jf ({ y with a := y.a + 1, u := true }, A', n', c'))[jf]? = some ({ y with a := y.a + 1, u := true }, A', n', c') := by rw [List.getElem?_set_self (by rw [List.length_set]; omega)]
            obtain ⟨H9, S9⟩ := H8.setS S8.tidy hr8 (q := 4) (r' := ({ y with a := y.a + 1, u := true, b := [] }, none, 0, 0)) (u := .slice none 0 0) (by omega) rfl ⟨Rd.nil _ _ _ (Nat.zero_le _), fun h => by simp at h⟩
            have X9 := X8.keep (P := fun c => c = k + 1) (StepC.set (a := ⟨bS, jf * 5 + 4, none⟩) S8.tidy H8.sl.col.of (.slice none 0 0)) (by omega)
            obtain ⟨HX, SX, hX⟩ := H9.ret S9.tidy X9 (.int .i64 (y.c : Int)) (.int .i64 (y.i : Int)) (.int .i64 ((y.a : Int) + 1))
            have SS := (((S6'.trans S7).trans S8).trans S9).trans SX
            have HHX := Lib.hid HX
            have y0 : W6.cell? ⟨w.heap.size, 0, none⟩ = some (.int .i64 0) := X6.cell 0 rfl
            have y1 : W6.cell? ⟨w.heap.size, 1, none⟩ = some (.int .i64 0) := X6.cell 1 rfl
            have y2 : W6.cell? ⟨w.heap.size, 2, none⟩ = some (.int .i64 0) := X6.cell 2 rfl
            have f0 : W6.frozen? ⟨w.heap.size, 0, none⟩ = false := X6.free 0
            have f1 : W6.frozen? ⟨w.heap.size, 1, none⟩ = false := X6.free 1
            have f2' : W6.frozen? ⟨w.heap.size, 2, none⟩ = false := X6.free 2
            have hya2 : (y.a : Int) ≤ 1000000000 := by omega
            have hHX := Lib.hid hX
            have hSS := Lib.hid SS
            clear H6 H7 H8 H9 t6 t7 HX S7 S8 S9 SX SS hX X7 X8 X9 S6' hr7 hr8 HH3 b2 b5 c2 y2 hya
            have y2 : W6.cell? ⟨w.heap.size, 2, none⟩ = some (.int .i64 0) := X6.cell 2 rfl
            go_wp2
            refine bodyPost_ret (results_cell_row2 rfl _ _ w.heap.size _ _ (0, 0) _ rfl hHX.out Try.underlying81 rfl (by kernel_rfl)) rfl ?_
            rw [HF.out, HT.out] at hGF ⊢
            exact ⟨rfl, _, ⟨hGF, _, _, _, _, _, _, HHX.out.time (x.t + 1)⟩, hSS.out⟩
        · have HF2 := Lib.hid (show lastAt x.s x.f c x.f.length = lastAt x.s x.f c q by rw [HLA.out, HST.out, if_neg hyc])
          have hyci : ¬ (y.c : Int) = (c : Int) := by omega
          go_wp2
          go_quiet (fail)
          go_wp2
          go_roundw
          case rel => exact ⟨q, _, by omega, by go_num, HF2.out, rfl⟩
          case measure => (simp [intOf] <;> omega)
end Go.Proofs.Ytenchaifnfgijaa
