/- The specified exact counters in memory: the box, NewStore, Full, Get. Conditions: none beyond those typed. -/
import Derived.Test.YtjkomnjkolggnaaExmath
import Derived.Test.YtjkomnjkolggnaaSvref2
namespace Go.Proofs.Ytjkomnjkolggnaa
open Go.ChangeShapes Go.WideShapes Go.ChangeAt Go.RowKit
set_option linter.unusedVariables false
set_option linter.unusedSimpArgs false
set_option maxRecDepth 100000

/-- A block that is one box, whatever its colour. -/
abbrev BoxN (w : World) (g : Nat) (cs : Array Value) (ty : TypeId) : Prop := BoxC (fun _ => 0) w g 0 cs ty
theorem BoxC.keepB {col : Col} {w w' : World} {g k m : Nat} {cs : Array Value} {ty : TypeId} (h : BoxC col w g k cs ty) (hb : Below m w w') (hg : g < m) : BoxC col w' g k cs ty := ⟨(hb.block g hg).trans h.heap, h.col⟩
/-- The specified store: the box, the row of entries. -/
structure RefXB (col : Col) (k : Nat) (w : World) (g : Nat) (t : ExSt) (A : Option Addr) (c : Nat) : Prop where
  box : BoxC col w g k #[.int .i64 t.n, .slice A t.l.length c] 49
  row : OwnKc kEn col w (k + 1) (.slice A t.l.length c) t.l
  k1 : 1 ≤ k
def RefX (col : Col) (k : Nat) (w : World) (g : Nat) (t : ExSt) : Prop := GoodX t ∧ ∃ A c, RefXB col k w g t A c
def DidRX (col : Col) (k : Nat) (w : World) (g : Nat) (t : ExSt) (w' : World) : Prop := ∃ col', RefX col' k w' g t ∧ StepC (Rng k) col w col' w'
section
variable {P : Nat → Prop} {col col' : Col} {w w' : World} {k g : Nat} {t : ExSt} {A : Option Addr} {c : Nat}
theorem RefXB.keep (h : RefXB col k w g t A c) (hs : StepC P col w col' w') (hp : ∀ c, Rng k c → ¬ P c) : RefXB col' k w' g t A c :=
  ⟨h.box.keep hs (hp _ ⟨Nat.le_refl _, by omega⟩), h.row.keep hs (hp _ ⟨by omega, by omega⟩), h.k1⟩
theorem RefXB.below (h : RefXB col k w g t A c) (ht : Tidy col w) (hb : Below w.heap.size w w') : RefXB col k w' g t A c := h.keep (P := fun _ => False) (StepC.below ht hb) (fun _ _ h => h)
theorem RefX.keep (h : RefX col k w g t) (hs : StepC P col w col' w') (hp : ∀ c, Rng k c → ¬ P c) : RefX col' k w' g t := by
  obtain ⟨G, A, c, H⟩ := h
  exact ⟨G, A, c, H.keep hs hp⟩
theorem RefX.below (h : RefX col k w g t) (ht : Tidy col w) (hb : Below w.heap.size w w') : RefX col k w' g t := h.keep (P := fun _ => False) (StepC.below ht hb) (fun _ _ h => h)
theorem rxFull (H : RefX col k w g t) : Calls Try.prog 35 #[.pointer (some ⟨g, 0, none⟩)] w fun e w' => e = .returned (.bool (decide (t.l.length = t.n))) ∧ Below w.heap.size w w' := by
  obtain ⟨G, A, c, H⟩ := H
  have x0 : w.cell? ⟨g, 0, none⟩ = some (.int .i64 t.n) := H.box.cell 0 rfl
  have x1 : w.cell? ⟨g, 1, none⟩ = some (.slice A t.l.length c) := H.box.cell 1 rfl
  obtain ⟨n, hn⟩ : ∃ n, t.l.length = n := ⟨_, rfl⟩
  obtain ⟨m, hm⟩ : ∃ m, t.n = m := ⟨_, rfl⟩
  rw [hn] at x1 ⊢
  rw [hm] at x0 ⊢
  clear H G hn hm
  by_cases hd : n = m
  · subst hd
    rw [decide_eq_true (rfl : n = n)]
    go_enter Try.func35, Try.ntmps35
    go_wp2
    go_quiet (fail)
    go_wp2
    go_ret
    exact ⟨rfl, below_drewN (Below.refl _ _) _⟩
  · have hb : ((n : Int) == (m : Int)) = false := beq_eq_false_iff_ne.2 (by omega)
    rw [decide_eq_false hd]
    go_enter Try.func35, Try.ntmps35
    go_wp2
    go_quiet (fail)
    go_wp2
    go_ret
    exact ⟨rfl, below_drewN (Below.refl _ _) _⟩
end
section
variable {P : Nat → Prop} {col col' : Col} {w w' : World} {k g : Nat} {t : ExSt}
/-- The row of entries. -/
theorem RefX.rows (H : RefX col k w g t) : ∃ A c, w.cell? ⟨g, 1, none⟩ = some (.slice A t.l.length c) ∧ RdG kEn w A t.l.length c t.l ∧ t.l.length ≤ 64 := by
  obtain ⟨G, A, c, H⟩ := H
  exact ⟨A, c, H.box.cell 1 rfl, H.row.own.reads, by have := G.len; have := G.n1; omega⟩
set_option maxHeartbeats 2000000 in
theorem rxGet (H : RefX col k w g t) (ht : Tidy col w) (s : ByteArray) :
    Calls Try.prog 22 #[.pointer (some ⟨g, 0, none⟩), .string s] w fun e w' => e = .returned (.tuple #[.agg (VE (t.get s).1), .bool (t.get s).2]) ∧ Below w.heap.size w w' := by
  have b1 : Below w.heap.size w (w.alloc (.cells #[.string ⟨#[]⟩, .int .u64 0, .int .u64 0] 32)) := (Below.refl _ _).alloc (Nat.le_refl _) _
  have X1 : BoxC col (w.alloc (.cells #[.string ⟨#[]⟩, .int .u64 0, .int .u64 0] 32)) w.heap.size 0 (VE zeroE) 32 := ⟨heap_alloc_new w _, ht _ (Nat.le_refl _)⟩
  obtain ⟨A, c, x2, R, hl6⟩ := H.rows
  obtain ⟨_, _, y2, R1, _⟩ := (H.below ht b1).rows
  have e1 := y2
  rw [b1.cell (p := ⟨g, 1, none⟩) (World.block_lt_of_cell? w _ x2), x2] at e1
  injection e1 with e1; injection e1 with e1 e2 e3; subst e1 e3
  have hP := place_any R1 (by omega) s
  have hcap := R.cap
  have hmax := R.max
  have HH := Lib.hid (fun (W : World) (hb : Below w.heap.size w W) => (H.below ht hb).rows)
  have ht1 := ht.size b1.size
  obtain ⟨W1, hW1⟩ : ∃ W1, W1 = w.alloc (.cells #[.string ⟨#[]⟩, .int .u64 0, .int .u64 0] 32) := ⟨_, rfl⟩
  obtain ⟨G, hG⟩ : ∃ G, w.heap.size = G := ⟨_, rfl⟩
  have y2r := y2
  rw [← hW1] at X1 y2 hP ht1 b1
  rw [hG] at X1
  have hGW : G ≤ W1.heap.size := by rw [← hG]; exact b1.size
  clear R1 H x2
  unfold placeI at hP
  cases hp : placeE t.l s with
  | none =>
    rw [hp] at hP
    rw [show t.get s = (zeroE, false) by unfold ExSt.get; rw [hp]]
    go_enter Try.func22, Try.ntmps22
    go_wp2_with fail
    rw [← hW1]
    clear hW1
    refine hP.mono ?_
    rintro e w2 ⟨rfl, b2⟩
    have X2 := X1.keep (P := fun _ => False) (StepC.below ht1 b2) (fun h => h)
    have y0 : w2.cell? ⟨G, 0, none⟩ = some (.string ⟨#[]⟩) := X2.cell 0 rfl
    have y1 : w2.cell? ⟨G, 1, none⟩ = some (.int .u64 0) := X2.cell 1 rfl
    have y3 : w2.cell? ⟨G, 2, none⟩ = some (.int .u64 0) := X2.cell 2 rfl
    have f0 := X2.free 0
    have f1 := X2.free 1
    have f2 := X2.free 2
    have HX := Lib.hid (vbox_en X2 (a := zeroE) zeroE).heap
    have HB := Lib.hid ((((below_then b1 b2).setCell (p := ⟨G, 0, none⟩) (by rw [hG]; exact Nat.le_refl _) (.string ⟨#[]⟩)).setCell (p := ⟨G, 1, none⟩) (by rw [hG]; exact Nat.le_refl _) (.int .u64 0)).setCell (p := ⟨G, 2, none⟩) (by rw [hG]; exact Nat.le_refl _) (.int .u64 0))
    clear X1 X2 hP b1 b2 hG hGW y2 y2r R
    go_wp2
    refine bodyPost_ret (results_cell_row2 rfl _ _ G _ _ (0, 0) _ rfl HX.out Try.underlying32 rfl (by kernel_rfl)) rfl ?_
    exact ⟨rfl, HB.out⟩
  | some i =>
    rw [hp] at hP
    obtain ⟨e0, he0, -, hil⟩ := placeE_some hp
    have hiI : (i : Int) < (t.l.length : Int) := by omega
    rw [show t.get s = (e0, true) by unfold ExSt.get; rw [hp]; show ((t.l[i]?).getD zeroE, true) = _; rw [he0]; rfl]
    go_enter Try.func22, Try.ntmps22
    go_wp2_with fail
    rw [← hW1]
    clear hW1
    refine hP.mono ?_
    rintro e w2 ⟨rfl, b2⟩
    have bw := below_then b1 b2
    obtain ⟨A2, c2, x2, R2, _⟩ := HH.out w2 bw
    obtain ⟨b, o, e5, rfl, h5, z0, z1, z2⟩ := R2.atEn hil
    rw [he0] at h5
    injection h5 with h5
    subst h5
    have hcap2 := R2.cap
    have hmax2 := R2.max
    have X2 := X1.keep (P := fun _ => False) (StepC.below ht1 b2) (fun h => h)
    have g0 : w2.cell? ⟨G, 0, none⟩ = some (.string ⟨#[]⟩) := X2.cell 0 rfl
    have g1 : w2.cell? ⟨G, 1, none⟩ = some (.int .u64 0) := X2.cell 1 rfl
    have g2 : w2.cell? ⟨G, 2, none⟩ = some (.int .u64 0) := X2.cell 2 rfl
    have f0 := X2.free 0
    have f1 := X2.free 1
    have f2 := X2.free 2
    have HX := Lib.hid (vbox_en X2 (a := zeroE) e0).heap
    have HB := Lib.hid (((bw.setCell (p := ⟨G, 0, none⟩) (by rw [hG]; exact Nat.le_refl _) (.string e0.1)).setCell (p := ⟨G, 1, none⟩) (by rw [hG]; exact Nat.le_refl _) (.int .u64 e0.2.1)).setCell (p := ⟨G, 2, none⟩) (by rw [hG]; exact Nat.le_refl _) (.int .u64 e0.2.2))
    clear X1 X2 hP b1 b2 bw hG hGW R R2 HH he0 hp y2 y2r
    go_wp2
    refine bodyPost_ret (results_cell_row2 rfl _ _ G _ _ (0, 0) _ rfl HX.out Try.underlying32 rfl (by kernel_rfl)) rfl ?_
    exact ⟨rfl, HB.out⟩
theorem RefX.paint {G d : Nat} (H : RefX col k w g t) (h0 : col G = 0) : RefX (dye col (some G) d) k w g t := by
  obtain ⟨hG, A, c, h⟩ := H
  have hk := h.k1
  have hc : ∀ q c, col q = c → 1 ≤ c → dye col (some G) d q = c := fun q c hq h1 => by
    rw [dye_no (fun e => by injection e with e; subst e; omega)]; exact hq
  exact ⟨hG, A, c, ⟨h.box.heap, hc _ _ h.box.col hk⟩, ⟨h.row.own, fun q hq => hc _ _ (h.row.col q hq) (by omega)⟩, hk⟩
/-- An entry is written into a new block. -/
theorem RefX.inNew {G : Nat} {w0 : World} {col0 : Col} (H : RefX col k w g t) (hs : StepC (Rng k) col0 w0 col w) (h0 : col G = 0) (h1 : w0.heap.size ≤ G) (h2 : G < w.heap.size) (e : En) :
    ∃ col', RefX col' k (((w.setCell ⟨G, 0, none⟩ (.string e.1)).setCell ⟨G, 1, none⟩ (.int .u64 e.2.1)).setCell ⟨G, 2, none⟩ (.int .u64 e.2.2)) g t ∧ StepC (Rng k) col0 w0 col' (((w.setCell ⟨G, 0, none⟩ (.string e.1)).setCell ⟨G, 1, none⟩ (.int .u64 e.2.1)).setCell ⟨G, 2, none⟩ (.int .u64 e.2.2)) := by
  have hk : 1 ≤ k := by obtain ⟨_, _, _, h⟩ := H; exact h.k1
  have M1 := H.paint (d := k + 16) h0
  have S1 := hs.paint (d := k + 16) h1 h2
  have t1 := StepC.set (P := fun d => d = k + 16) S1.tidy (a := ⟨G, 0, none⟩) dye_of (.string e.1)
  have t2 := StepC.set (P := fun d => d = k + 16) t1.tidy (a := ⟨G, 1, none⟩) dye_of (.int .u64 e.2.1)
  have t3 := StepC.set (P := fun d => d = k + 16) t2.tidy (a := ⟨G, 2, none⟩) dye_of (.int .u64 e.2.2)
  exact ⟨_, M1.keep ((t1.trans t2).trans t3) (fun c hc e => by have := hc.2; omega), ((S1.inNew (a := ⟨G, 0, none⟩) h1 _).inNew (a := ⟨G, 1, none⟩) h1 _).inNew (a := ⟨G, 2, none⟩) h1 _⟩
/-- A row in new memory takes the place of the row. -/
theorem RefXB.newRow {A A' : Option Addr} {c c' N : Nat} {l' : List En} (h : RefXB col k w g t A c) (ht : Tidy col w) (hB : Below w.heap.size w w') (hN : l'.length = N) (hO : OwnK kEn w' (.slice A' N c') l') (hW : New w (.slice A' N c')) :
    ∃ col', RefXB col' k (w'.setCell ⟨g, 1, none⟩ (.slice A' N c')) g { t with l := l' } A' c' ∧ StepC (Rng k) col w col' (w'.setCell ⟨g, 1, none⟩ (.slice A' N c')) := by
  subst hN
  have hk := h.k1
  have s1 : StepC (fun _ => False) col w (dye col (Value.slice A' l'.length c').ownBlock (k + 1)) w' := StepC.newRow ht hB fun b e => ⟨hW b e, hO.lt b e⟩
  have b1 := h.box.keep s1 (fun h => h)
  have s2 := StepC.set (P := fun d => d = k) s1.tidy (a := ⟨g, 1, none⟩) b1.col (.slice A' l'.length c')
  exact ⟨_, ⟨b1.put 1 _, (OwnKc.mk' (c := k + 1) kEn hO).keep s2 (by omega), hk⟩, (s1.mono fun _ h => h.elim).trans (s2.mono fun c e => ⟨by omega, by omega⟩)⟩
end
def xsE (m : Int) : Int := if m < 0 ∨ 32 < m then 1 else 0
def NewRX (col : Col) (k : Nat) (m : Int) (w : World) (e : Ending) (w' : World) : Prop :=
  (xsE m = 0 ∧ ∃ g, e = .returned (.tuple #[.pointer (some ⟨g, 0, none⟩), .int .i64 0]) ∧ DidRX col k w g (newX m.toNat) w') ∨ (xsE m = 1 ∧ e = .returned (.tuple #[.pointer none, .int .i64 1]) ∧ Below w.heap.size w w')
section
variable {col : Col} {w : World} {k : Nat}
theorem new_rx (ht : Tidy col w) (hk : 1 ≤ k) {n : Nat} (hG : GoodX (newX n)) :
    DidRX col k w w.heap.size (newX n) (w.alloc (.cells #[.int .i64 n, .slice none 0 0] 49)) :=
  ⟨dye col (some w.heap.size) k, ⟨hG, _, _, ⟨heap_alloc_new w _, dye_of⟩, OwnKc.nil kEn _ _ _, hk⟩, StepC.newRow ht ((Below.refl _ _).alloc (Nat.le_refl _) _) fun b e => by injection e with e; subst e; exact ⟨Nat.le_refl _, by simp⟩⟩
set_option maxHeartbeats 1000000 in
theorem rxNew (ht : Tidy col w) (hk : 1 ≤ k) (m : Int) (hn : -9223372036854775808 ≤ m ∧ m ≤ 9223372036854775807) :
    Calls Try.prog 8 #[.int .i64 m] w (NewRX col k m w) := by
  obtain ⟨i1, i2⟩ := hn
  by_cases h1 : m < 0
  · have HE := Lib.hid (show xsE m = 1 from if_pos (.inl h1))
    go_enter Try.func8, Try.ntmps8
    go_wp2
    go_ret2
    exact .inr ⟨HE.out, rfl, Below.refl _ _⟩
  by_cases h2 : 32 < m
  · have HE := Lib.hid (show xsE m = 1 from if_pos (.inr h2))
    go_enter Try.func8, Try.ntmps8
    go_wp2
    go_ret2
    exact .inr ⟨HE.out, rfl, Below.refl _ _⟩
  obtain ⟨q, hq⟩ : ∃ q : Nat, m = q := ⟨m.toNat, by omega⟩
  subst hq
  have HE := Lib.hid (show xsE q = 0 from if_neg (by omega))
  have HG := Lib.hid (newX_good (n := q) (by omega))
  have HM := Lib.hid (new_rx (n := q) ht hk HG.out)
  go_enter Try.func8, Try.ntmps8
  go_wp2
  go_ret2
  exact .inl ⟨HE.out, _, rfl, HM.out⟩
end
end Go.Proofs.Ytjkomnjkolggnaa
