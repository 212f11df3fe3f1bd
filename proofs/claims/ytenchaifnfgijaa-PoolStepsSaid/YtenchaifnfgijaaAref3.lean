/- The specified arena in memory: one store, one append; Free, Write, Read. Conditions: none beyond those typed. -/
import Derived.Test.YtenchaifnfgijaaAr
import Derived.Test.YtenchaifnfgijaaBm
namespace Go.Proofs.Ytenchaifnfgijaa
open Go.ChangeShapes Go.WideShapes Go.ChangeAt Go.RowKit
set_option linter.unusedVariables false
set_option linter.unusedSimpArgs false
set_option maxRecDepth 100000

section
variable {P : Nat → Prop} {col col' : Col} {w w' : World} {k g : Nat} {x : ASt} {AL : Option Addr} {cL : Nat} {vS vF vN : Value} {R : List RSl}
theorem map_set_fst {R : List RSl} {i : Nat} {r : RSl} : (R.set i r).map Prod.fst = (R.map Prod.fst).set i r.1 := by rw [List.map_set]
/-- One cell of one slot is written. -/
theorem RefB.setS {bS n cS i q : Nat} {r r' : RSl} {u : Value} (h : RefB col k w g x AL cL (.slice (some ⟨bS, 0, none⟩) n cS) vF vN R) (ht : Tidy col w) (hr : R[i]? = some r) (hq : q < 5) (he : RSl.enc r' = (RSl.enc r).set q u)
    (hb : Rd0 col w r'.2.1 r'.2.2.1 r'.2.2.2 r'.1.b) :
    RefB col k (w.setCell ⟨bS, i * 5 + q, none⟩ u) g { x with s := x.s.set i r'.1 } AL cL (.slice (some ⟨bS, 0, none⟩) n cS) vF vN (R.set i r') ∧ StepC (Rng k) col w col (w.setCell ⟨bS, i * 5 + q, none⟩ u) := by
  have hc := h.sl.col.of
  have hs : StepC (fun c => c = k + 1) col w col (w.setCell ⟨bS, i * 5 + q, none⟩ u) := StepC.set ht hc _
  have h0 : ¬ (0 = k + 1) := by omega
  refine ⟨⟨h.box.keep hs (by omega), h.cls.keep hs h0, h.sl.set (K := kS) hr hq he, by rw [map_set_fst, h.fst], fun r2 hr2 => ?_, h.fr.keep hs (by omega), h.nx.keep hs (by omega), h.k1⟩, hs.mono fun c e => by subst e; exact ⟨by omega, by omega⟩⟩
  rcases List.mem_or_eq_of_mem_set hr2 with hm | rfl
  · exact (h.tells r2 hm).keep hs h0
  · exact hb.keep hs h0
/-- The free list has got a row in memory. -/
theorem RefB.putF {v : Value} {f : List Nat} (h : RefB col k w g x AL cL vS vF vN R) (ht : Tidy col w) (hs : StepC (fun c => c = k + 2) col w (dye col v.ownBlock (k + 2)) w') (ho : OwnK kI w' v (ints f)) :
    RefB (dye col v.ownBlock (k + 2)) k (w'.setCell ⟨g, 2, none⟩ v) g { x with f := f } AL cL vS v vN R ∧ StepC (Rng k) col w (dye col v.ownBlock (k + 2)) (w'.setCell ⟨g, 2, none⟩ v) := by
  have h0 : ¬ (0 = k + 2) := by omega
  have h1 := h.box.keep hs (by omega)
  have hs2 : StepC (fun c => c = k) (dye col v.ownBlock (k + 2)) w' (dye col v.ownBlock (k + 2)) (w'.setCell ⟨g, 2, none⟩ v) := StepC.set hs.tidy h1.col _
  have hk := h.k1
  have h00 : ¬ (0 = k) := by omega
  have h3 := h1.put 2 v
  refine ⟨⟨by simpa using h3, (h.cls.keep hs h0).keep hs2 h00, (h.sl.keep hs (by omega)).keep hs2 (by omega), h.fst, fun r hr => ((h.tells r hr).keep hs h0).keep hs2 h00, (OwnKc.mk' kI ho).keep hs2 (by omega), (h.nx.keep hs (by omega)).keep hs2 (by omega), h.k1⟩,
    (hs.mono fun c e => by subst e; exact ⟨by omega, by omega⟩).trans (hs2.mono fun c e => by subst e; exact ⟨by omega, by omega⟩)⟩
end
theorem RefB.time {col : Col} {w : World} {k g : Nat} {x : ASt} {AL : Option Addr} {cL : Nat} {vS vF vN : Value} {R : List RSl} (h : RefB col k w g x AL cL vS vF vN R) (t : Nat) : RefB col k w g { x with t := t } AL cL vS vF vN R := ⟨h.box, h.cls, h.sl, h.fst, h.tells, h.fr, h.nx, h.k1⟩
/-- What a call on an arena leaves. -/
def Did (col : Col) (k : Nat) (w : World) (g : Nat) (x : ASt) (w' : World) : Prop := ∃ col', RefA col' k w' g x ∧ StepC (Rng k) col w col' w'
theorem set_modify {α : Type} {l : List α} {i : Nat} {y : α} (f : α → α) (h : l[i]? = some y) : l.set i (f y) = l.modify i f := by
  apply List.ext_getElem?
  intro j
  rw [List.getElem?_set, List.getElem?_modify]
  by_cases e : i = j
  · subst e
    obtain ⟨hl, he⟩ := List.getElem?_eq_some_iff.1 h
    simp [hl, he]
  · simp [e]
set_option maxHeartbeats 1000000 in
theorem arFree {col : Col} {k g : Nat} {w : World} {x : ASt} (H : RefA col k w g x) (ht : Tidy col w) (h : Hd) (hlt : x.t ≤ 1000000000) :
    Calls Try.prog 37 #[.pointer (some ⟨g, 0, none⟩), .agg #[.int .i64 h.1, .int .i64 h.2.1, .int .i64 h.2.2]] w
      fun e w' => e = .returned (.int .i64 (x.free h).1) ∧ Did col k w g (x.free h).2 w' := by
  obtain ⟨hG, AL, cL, vS, vF, vN, R, H⟩ := H
  obtain ⟨p, q, r⟩ := h
  have hGF := hG.free (p, q, r)
  have hB1 : Below w.heap.size w (w.alloc (.cells #[.int .i64 p, .int .i64 q, .int .i64 r] 81)) := (Below.refl _ _).alloc (Nat.le_refl _) _
  have H1 := H.below ht hB1
  have ht1 := ht.size hB1.size
  have hS1 : StepC (Rng k) col w col (w.alloc (.cells #[.int .i64 p, .int .i64 q, .int .i64 r] 81)) := StepC.below ht hB1
  go_enter Try.func37, Try.ntmps37
  go_wp2_with fail
  refine (arFind H1 hG ht1 (p, q, r) hlt).mono ?_
  rintro e w2 ⟨rfl, H2, S2⟩
  have ht2 := S2.tidy
  have S2' := hS1.trans S2
  clear H1 ht1 hS1 S2 hB1 H
  cases hf : x.find (p, q, r) with
  | none =>
    have HF := Lib.hid hf
    rw [hf] at H2
    clear hf
    simp only [findR]
    go_wp2
    go_ret
    refine ⟨ret_i64 (by simp [ASt.free, HF.out]), ?_⟩
    simp only [ASt.free, HF.out]
    exact ⟨col, ⟨hG.fault, _, _, _, _, _, _, H2⟩, S2'⟩
  | some i =>
    obtain ⟨y, hy, hu, hh⟩ := find_some hf
    rw [hf] at H2
    simp only [findX] at H2
    simp only [findR]
    have HF := Lib.hid hf
    have hil : i < x.s.length := (List.getElem?_eq_some_iff.1 hy).1
    have hlen := H2.len
    clear hy hu hh
    obtain ⟨⟨y, A', n', c'⟩, hr⟩ : ∃ r, R[i]? = some r := ⟨_, List.getElem?_eq_getElem (by omega)⟩
    have hy := H2.at_ hr
    obtain ⟨AS, cS, rfl, hrS, _⟩ := H2.sl.own.form (n := x.s.length) hlen
    have hcapS := hrS.cap
    have hmaxS := hrS.max
    have hfew := hG.few
    have hfewF := hG.fewF
    obtain ⟨bS, rfl, hbS⟩ := H2.sl.own.head (by omega)
    have hRb := H2.tells _ (List.mem_of_getElem? hr)
    obtain ⟨s0, s1, s2, s3, s4⟩ := kS_cells H2.sl.own hr
    have fS := H2.sl.own.free (i * 5 + 3)
    obtain ⟨H3, S3⟩ := H2.setS ht2 hr (q := 3) (r' := ({ y with u := false }, A', n', c')) (u := .bool false) (by omega) rfl hRb
    have ht3 := S3.tidy
    have S3' := S2'.trans S3
    obtain ⟨x0, x1, x2, x3, x4⟩ := H2.cells
    have HX := Lib.hid (show x.free (p, q, r) = (0, { x with s := x.s.set i { y with u := false }, f := x.f ++ [i], t := x.t + 1 }) by
      unfold ASt.free; rw [HF.out]; simp only; rw [set_modify (fun y => { y with u := false }) hy])
    have HH := Lib.hid H3
    have hil2 : (i : Int) < (x.s.length : Int) := by omega
    have x2' : (w2.setCell ⟨bS, i * 5 + 3, none⟩ (.bool false)).cell? ⟨g, 2, none⟩ = some vF := H3.cells.2.2.1
    have hB4 : Below (w2.setCell ⟨bS, i * 5 + 3, none⟩ (.bool false)).heap.size (w2.setCell ⟨bS, i * 5 + 3, none⟩ (.bool false)) ((w2.setCell ⟨bS, i * 5 + 3, none⟩ (.bool false)).alloc (.cells #[.int .i64 (i : Int)] 3)) := (Below.refl _ _).alloc (Nat.le_refl _) _
    have H4 := H3.below ht3 hB4
    have ht4 := ht3.size hB4.size
    have S4 : StepC (Rng k) col w col ((w2.setCell ⟨bS, i * 5 + 3, none⟩ (.bool false)).alloc (.cells #[.int .i64 (i : Int)] 3)) := S3'.trans (StepC.below ht3 hB4)
    have rd1 : RdG kI ((w2.setCell ⟨bS, i * 5 + 3, none⟩ (.bool false)).alloc (.cells #[.int .i64 (i : Int)] 3)) (some ⟨w2.heap.size, 0, none⟩) 1 1 [(i : Int)] := RdG.one' kI (by simp [World.setCell]) (i : Int)
    have oF := H4.fr.own
    have hby : (ints x.f).length + 1 ≤ 1000000000 := by simp only [ints, List.length_map]; omega
    have hap : ints x.f ++ [(i : Int)] = ints (x.f ++ [i]) := by simp [ints]
    have HAP := Lib.hid hap
    clear hf hy hrS H2 H3 S2' S3 S3' s0 s1 s2 s4 x0 x3 x4 hRb hr hap HH
    go_wp2_with (at_builtin; refine wpList_appK kI rfl (.tmp 22) (.tmp 24) rfl vF (ints x.f) rfl _ 1 1 [(i : Int)] rfl oF rd1 hby ?_; intro v5 w5 O5 G5 hat5; have S5 := StepC.app (P := fun c => c = k + 2) ht4 G5 H4.fr.col rfl hat5 O5.lt; have B5 := H4.box.keep S5 (by omega); have x2 := B5.cell 2 rfl; have f2 := B5.free 2; rw [HAP.out] at O5; obtain ⟨H6, S6⟩ := H4.putF ht4 S5 O5; obtain ⟨A5, c5, rfl, _, _⟩ := O5.form rfl)
    go_ret
    refine ⟨ret_i64 (by rw [HX.out]), ?_⟩
    rw [HX.out] at hGF ⊢
    exact ⟨_, ⟨hGF, _, _, _, _, _, _, H6.time (x.t + 1)⟩, S4.trans S6⟩
/-- A cell that a region loads, in every world that has only grown; behind a store into another block. -/
theorem c_keep {W w' : World} {a : Addr} {u : Value} (h1 : W.cell? a = some u) (hb : Below W.heap.size W w') : w'.cell? a = some u := (hb.cell (World.block_lt_of_cell? _ _ h1)).trans h1
theorem c_set {W w' : World} {a p : Addr} {u v : Value} (h1 : W.cell? a = some u) (hne : a.block ≠ p.block) (hb : Below W.heap.size W w') : (w'.setCell p v).cell? a = some u :=
  (World.cell?_of_block (w := w') (Below.heap_setCell _ _ _ _ hne)).trans (c_keep h1 hb)
theorem f_keep {W w' : World} {a : Addr} {u : Value} (h1 : W.cell? a = some u) (f1 : W.frozen? a = false) (hb : Below W.heap.size W w') : w'.frozen? a = false := (hb.frozen (World.block_lt_of_cell? _ _ h1)).trans f1
end Go.Proofs.Ytenchaifnfgijaa
