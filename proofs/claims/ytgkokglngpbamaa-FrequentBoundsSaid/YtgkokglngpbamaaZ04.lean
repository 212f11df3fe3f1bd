/- Words laid together in one text. Conditions: none beyond those typed. -/
import Derived.Test.YtgkokglngpbamaaZ03
import Derived.Test.YtgkokglngpbamaaBm
import Derived.Deep.RegionLaw
import Derived.Test.YtgkokglngpbamaaFqmath
/- The specified table in memory: without, Get, Take. Conditions: none beyond those typed. -/
namespace Go.Proofs.Ytgkokglngpbamaa
open Go.ChangeShapes Go.WideShapes Go.ChangeAt Go.RowKit
set_option linter.unusedVariables false
set_option linter.unusedSimpArgs false
set_option maxRecDepth 100000

/-- A row in new memory, its own. -/
def OwnOut {α : Type} (K : Kind α) (w : World) (N : Nat) (l : List α) (e : Ending) (w' : World) : Prop := ∃ A c, e = .returned (.slice A N c) ∧ OwnK K w' (.slice A N c) l ∧ New w (.slice A N c) ∧ Below w.heap.size w w'
set_option maxHeartbeats 2000000 in
theorem without_any {w : World} {b n c i : Nat} {l : List En} (h : RdG kEn w (some ⟨b, 0, none⟩) n c l) (hn : n ≤ 1000000) (hi : i < n) :
    Calls Try.prog 46 #[.slice (some ⟨b, 0, none⟩) n c, .int .i64 (i : Int)] w (OwnOut kEn w (n - 1) (withoutE l i)) := by
  have hcap := h.cap
  have hmax := h.max
  have hl := h.len
  obtain ⟨q1, hq1⟩ : ∃ q1 : Nat, q1 = i + 1 := ⟨_, rfl⟩
  have hwq : IntKind.i64.wrap ((i : Int) + 1) = (q1 : Int) := by rw [IntKind.wrap_i64]; omega
  obtain ⟨AD, hAD, r2⟩ : ∃ AD, (if c = q1 then (some ⟨b, 0, none⟩ : Option Addr) else some ⟨b, q1 * 3, none⟩) = some AD ∧ RdG kEn w (some AD) (n - q1) (c - q1) (l.drop q1) := by
    have h := h.dropIf (i := q1) (by omega)
    rw [show 0 + q1 * kEn.k = q1 * 3 by simp [kEn]] at h
    by_cases hc : c = q1
    · rw [if_pos hc] at h ⊢; exact ⟨_, rfl, h⟩
    · rw [if_neg hc] at h ⊢; exact ⟨_, rfl, h⟩
  have r1 := h.head (j := i) (by omega)
  have hq2 : (q1 : Int) ≤ (n : Int) := by omega
  have hKh : (i : Int) ≤ (c : Int) := by omega
  have hby1 : ([] : List En).length + i ≤ 1000000000 := by simp; omega
  have hby2 : ([] ++ l.take i).length + (n - q1) ≤ 1000000000 := by simp; omega
  have hOl : ([] ++ l.take i ++ l.drop q1).length = n - 1 := by simp; omega
  have HW := Lib.hid (show [] ++ l.take i ++ l.drop q1 = withoutE l i by unfold withoutE; rw [hq1]; simp)
  clear hq1 h
  go_enter Try.func46, Try.ntmps46
  go_wp2
  go_region_law (first | (refine step_appN kEn w rfl (.tmp 5) (.tmp 8) rfl _ [] rfl (some ⟨b, 0, none⟩) i c _ rfl (OwnK.empty kEn rfl) (New.lit (Nat.le_refl _)) (bd1 _ _) (r1.below (bd1 _ _)) hby1 ?_; intro v4 w4 O4 N4 B4) | (refine step_appN kEn w rfl (.tmp 9) (.tmp 13) rfl _ _ rfl (some AD) (n - q1) (c - q1) _ rfl O4 N4 B4 (r2.below B4) hby2 ?_; intro v5 w5 O5 N5 B5; obtain ⟨A5, c5, rfl, _, _⟩ := O5.form hOl))
  all_goals
    have HO := Lib.hid (show OwnK kEn w5 (.slice A5 (n - 1) c5) (withoutE l i) by rw [← HW.out]; exact O5)
    clear O5 O4 r1 r2
    go_wp2
    go_ret
    exact ⟨A5, c5, rfl, HO.out, N5, B5⟩
/-- An entry is written into its box. -/
theorem vbox_en {col : Col} {w : World} {g' c : Nat} {a : En} (X : BoxC col w g' c (VE a) 32) (e : En) :
    BoxC col (((w.setCell ⟨g', 0, none⟩ (.string e.1)).setCell ⟨g', 1, none⟩ (.int .u64 e.2.1)).setCell ⟨g', 2, none⟩ (.int .u64 e.2.2)) g' c (VE e) 32 := ((X.put 0 _).put 1 _).put 2 _
section
variable {P : Nat → Prop} {col col' : Col} {w w' : World} {k g : Nat} {t : TSt}
/-- The row of entries. -/
theorem RefT.rows (H : RefT col k w g t) : ∃ A c, w.cell? ⟨g, 2, none⟩ = some (.slice A t.l.length c) ∧ RdG kEn w A t.l.length c t.l ∧ t.l.length ≤ 64 ∧ w.cell? ⟨g, 0, none⟩ = some (.int .i64 1) := by
  obtain ⟨G, A, c, H⟩ := H
  exact ⟨A, c, H.box.cell 2 rfl, H.row.own.reads, by have := G.len; have := G.m1; omega, H.box.cell 0 rfl⟩
set_option maxHeartbeats 2000000 in
theorem rtGet (H : RefT col k w g t) (ht : Tidy col w) (s : ByteArray) :
    Calls Try.prog 26 #[.pointer (some ⟨g, 0, none⟩), .string s] w fun e w' => e = .returned (.tuple #[.agg (VE (t.get s).1), .bool (t.get s).2]) ∧ Below w.heap.size w w' := by
  have b1 : Below w.heap.size w (w.alloc (.cells #[.string ⟨#[]⟩, .int .u64 0, .int .u64 0] 32)) := (Below.refl _ _).alloc (Nat.le_refl _) _
  have X1 : BoxC col (w.alloc (.cells #[.string ⟨#[]⟩, .int .u64 0, .int .u64 0] 32)) w.heap.size 0 (VE zeroE) 32 := ⟨heap_alloc_new w _, ht _ (Nat.le_refl _)⟩
  obtain ⟨A, c, x2, R, hl6, _⟩ := H.rows
  obtain ⟨_, _, y2, R1, _, _⟩ := (H.below ht b1).rows
  have e1 := y2
  rw [b1.cell (p := ⟨g, 2, none⟩) (World.block_lt_of_cell? w _ x2), x2] at e1
  injection e1 with e1; injection e1 with e1 e2 e3; subst e1 e3
  have hP := place_any R1 (by omega) s
  have hcap := R.cap
  have hmax := R.max
  have HH := Lib.hid (fun (W : World) (hb : Below w.heap.size w W) => (H.below ht hb).rows)
  have ht1 := ht.size b1.size
  obtain ⟨W1, hW1⟩ : ∃ W1, W1 = w.alloc (.cells #[.string ⟨#[]⟩, .int .u64 0, .int .u64 0] 32) := ⟨_, rfl⟩
  obtain ⟨G, hG⟩ : ∃ G, w.heap.size = G := ⟨_, rfl⟩
  have y2r := y2
  rw [← hW1] at X1 y2 hP ht1 b1
  rw [hG] at X1
  have hGW : G ≤ W1.heap.size := by rw [← hG]; exact b1.size
  clear R1 H x2
  unfold placeI at hP
  cases hp : placeE t.l s with
  | none =>
    rw [hp] at hP
    rw [show t.get s = (zeroE, false) by unfold TSt.get; rw [hp]]
    go_enter Try.func26, Try.ntmps26
    go_wp2_with fail
    rw [← hW1]
    clear hW1
    refine hP.mono ?_
    rintro e w2 ⟨rfl, b2⟩
    have X2 := X1.keep (P := fun _ => False) (StepC.below ht1 b2) (fun h => h)
    have y0 : w2.cell? ⟨G, 0, none⟩ = some (.string ⟨#[]⟩) := X2.cell 0 rfl
    have y1 : w2.cell? ⟨G, 1, none⟩ = some (.int .u64 0) := X2.cell 1 rfl
    have y3 : w2.cell? ⟨G, 2, none⟩ = some (.int .u64 0) := X2.cell 2 rfl
    have f0 := X2.free 0
    have f1 := X2.free 1
    have f2 := X2.free 2
    have HX := Lib.hid (vbox_en X2 (a := zeroE) zeroE).heap
    have HB := Lib.hid ((((below_then b1 b2).setCell (p := ⟨G, 0, none⟩) (by rw [hG]; exact Nat.le_refl _) (.string ⟨#[]⟩)).setCell (p := ⟨G, 1, none⟩) (by rw [hG]; exact Nat.le_refl _) (.int .u64 0)).setCell (p := ⟨G, 2, none⟩) (by rw [hG]; exact Nat.le_refl _) (.int .u64 0))
    clear X1 X2 hP b1 b2 hG hGW y2 y2r R
    go_wp2
    refine bodyPost_ret (results_cell_row2 rfl _ _ G _ _ (0, 0) _ rfl HX.out Try.underlying32 rfl (by kernel_rfl)) rfl ?_
    exact ⟨rfl, HB.out⟩
  | some i =>
    rw [hp] at hP
    obtain ⟨e0, he0, -, hil⟩ := placeE_some hp
    have hiI : (i : Int) < (t.l.length : Int) := by omega
    rw [show t.get s = (e0, true) by unfold TSt.get; rw [hp]; show ((t.l[i]?).getD zeroE, true) = _; rw [he0]; rfl]
    go_enter Try.func26, Try.ntmps26
    go_wp2_with fail
    rw [← hW1]
    clear hW1
    refine hP.mono ?_
    rintro e w2 ⟨rfl, b2⟩
    have bw := below_then b1 b2
    obtain ⟨A2, c2, x2, R2, _, x0⟩ := HH.out w2 bw
    obtain ⟨b, o, e5, rfl, h5, z0, z1, z2⟩ := R2.atEn hil
    rw [he0] at h5
    injection h5 with h5
    subst h5
    have hcap2 := R2.cap
    have hmax2 := R2.max
    have X2 := X1.keep (P := fun _ => False) (StepC.below ht1 b2) (fun h => h)
    have v0 : w2.cell? ⟨G, 0, none⟩ = some (.string ⟨#[]⟩) := X2.cell 0 rfl
    have B3 := bw.alloc bw.size (.cells (VE e0) 32)
    have X3 : BoxC col (w2.alloc (.cells (VE e0) 32)) G 0 (VE zeroE) 32 := X2.keep (P := fun _ => False) (StepC.alloc (ht1.size b2.size) _) (fun h => h)
    have g0 : (w2.alloc (.cells (VE e0) 32)).cell? ⟨G, 0, none⟩ = some (.string ⟨#[]⟩) := X3.cell 0 rfl
    have g1 : (w2.alloc (.cells (VE e0) 32)).cell? ⟨G, 1, none⟩ = some (.int .u64 0) := X3.cell 1 rfl
    have g2 : (w2.alloc (.cells (VE e0) 32)).cell? ⟨G, 2, none⟩ = some (.int .u64 0) := X3.cell 2 rfl
    have f0 := X3.free 0
    have f1 := X3.free 1
    have f2 := X3.free 2
    have n0 : (w2.alloc (.cells (VE e0) 32)).cell? ⟨w2.heap.size, 0, none⟩ = some (.string e0.1) := (World.cell?_alloc_at (w := w2) _ _ _ _ rfl).trans rfl
    have n1 : (w2.alloc (.cells (VE e0) 32)).cell? ⟨w2.heap.size, 1, none⟩ = some (.int .u64 e0.2.1) := (World.cell?_alloc_at (w := w2) _ _ _ _ rfl).trans rfl
    have n2 : (w2.alloc (.cells (VE e0) 32)).cell? ⟨w2.heap.size, 2, none⟩ = some (.int .u64 e0.2.2) := (World.cell?_alloc_at (w := w2) _ _ _ _ rfl).trans rfl
    have x0' : (w2.alloc (.cells (VE e0) 32)).cell? ⟨g, 0, none⟩ = some (.int .i64 1) := (HH.out _ B3).choose_spec.choose_spec.2.2.2
    have HX := Lib.hid (vbox_en X3 (a := zeroE) e0).heap
    have HB := Lib.hid (((B3.setCell (p := ⟨G, 0, none⟩) (by rw [hG]; exact Nat.le_refl _) (.string e0.1)).setCell (p := ⟨G, 1, none⟩) (by rw [hG]; exact Nat.le_refl _) (.int .u64 e0.2.1)).setCell (p := ⟨G, 2, none⟩) (by rw [hG]; exact Nat.le_refl _) (.int .u64 e0.2.2))
    clear X1 X2 X3 hP b1 b2 bw B3 hG hGW R R2 HH he0 hp v0 y2 y2r
    go_wp2
    refine bodyPost_ret (results_cell_row2 rfl _ _ G _ _ (0, 0) _ rfl HX.out Try.underlying32 rfl (by kernel_rfl)) rfl ?_
    exact ⟨rfl, HB.out⟩
theorem RefT.paint {G d : Nat} (H : RefT col k w g t) (h0 : col G = 0) : RefT (dye col (some G) d) k w g t := by
  obtain ⟨hG, A, c, h⟩ := H
  have hk := h.k1
  have hc : ∀ q c, col q = c → 1 ≤ c → dye col (some G) d q = c := fun q c hq h1 => by
    rw [dye_no (fun e => by injection e with e; subst e; omega)]; exact hq
  exact ⟨hG, A, c, ⟨h.box.heap, hc _ _ h.box.col hk⟩, ⟨h.row.own, fun q hq => hc _ _ (h.row.col q hq) (by omega)⟩, hk⟩
/-- An entry is written into a new block. -/
theorem RefT.inNew {G : Nat} {w0 : World} {col0 : Col} (H : RefT col k w g t) (hs : StepC (Rng k) col0 w0 col w) (h0 : col G = 0) (h1 : w0.heap.size ≤ G) (h2 : G < w.heap.size) (e : En) :
    ∃ col', RefT col' k (((w.setCell ⟨G, 0, none⟩ (.string e.1)).setCell ⟨G, 1, none⟩ (.int .u64 e.2.1)).setCell ⟨G, 2, none⟩ (.int .u64 e.2.2)) g t ∧ StepC (Rng k) col0 w0 col' (((w.setCell ⟨G, 0, none⟩ (.string e.1)).setCell ⟨G, 1, none⟩ (.int .u64 e.2.1)).setCell ⟨G, 2, none⟩ (.int .u64 e.2.2)) := by
  have hk : 1 ≤ k := by obtain ⟨_, _, _, h⟩ := H; exact h.k1
  have M1 := H.paint (d := k + 16) h0
  have S1 := hs.paint (d := k + 16) h1 h2
  have t1 := StepC.set (P := fun d => d = k + 16) S1.tidy (a := ⟨G, 0, none⟩) dye_of (.string e.1)
  have t2 := StepC.set (P := fun d => d = k + 16) t1.tidy (a := ⟨G, 1, none⟩) dye_of (.int .u64 e.2.1)
  have t3 := StepC.set (P := fun d => d = k + 16) t2.tidy (a := ⟨G, 2, none⟩) dye_of (.int .u64 e.2.2)
  exact ⟨_, M1.keep ((t1.trans t2).trans t3) (fun c hc e => by have := hc.2; omega), ((S1.inNew (a := ⟨G, 0, none⟩) h1 _).inNew (a := ⟨G, 1, none⟩) h1 _).inNew (a := ⟨G, 2, none⟩) h1 _⟩
/-- A row in new memory takes the place of the row. -/
theorem RefTB.newRow {A A' : Option Addr} {c c' N : Nat} {l' : List En} (h : RefTB col k w g t A c) (ht : Tidy col w) (hB : Below w.heap.size w w') (hN : l'.length = N) (hO : OwnK kEn w' (.slice A' N c') l') (hW : New w (.slice A' N c')) :
    ∃ col', RefTB col' k (w'.setCell ⟨g, 2, none⟩ (.slice A' N c')) g { t with l := l' } A' c' ∧ StepC (Rng k) col w col' (w'.setCell ⟨g, 2, none⟩ (.slice A' N c')) := by
  subst hN
  have hk := h.k1
  have s1 : StepC (fun _ => False) col w (dye col (Value.slice A' l'.length c').ownBlock (k + 1)) w' := StepC.newRow ht hB fun b e => ⟨hW b e, hO.lt b e⟩
  have b1 := h.box.keep s1 (fun h => h)
  have s2 := StepC.set (P := fun d => d = k) s1.tidy (a := ⟨g, 2, none⟩) b1.col (.slice A' l'.length c')
  exact ⟨_, ⟨b1.put 2 _, (OwnKc.mk' (c := k + 1) kEn hO).keep s2 (by omega), hk⟩, (s1.mono fun _ h => h.elim).trans (s2.mono fun c e => ⟨by omega, by omega⟩)⟩
end
end Go.Proofs.Ytgkokglngpbamaa

/- The specified table in memory: New. Conditions: none beyond those typed. -/
namespace Go.Proofs.Ytgkokglngpbamaa
open Go.ChangeShapes Go.WideShapes Go.ChangeAt Go.RowKit
set_option linter.unusedVariables false
set_option linter.unusedSimpArgs false
set_option maxRecDepth 100000

def svE (m : Int) : Int := if m < 1 ∨ 64 < m then 1 else 0
def NewRT (col : Col) (k : Nat) (m : Int) (w : World) (e : Ending) (w' : World) : Prop :=
  (svE m = 0 ∧ ∃ g, e = .returned (.tuple #[.pointer (some ⟨g, 0, none⟩), .int .i64 0]) ∧ DidRT col k w g (newT m.toNat) w') ∨ (svE m = 1 ∧ e = .returned (.tuple #[.pointer none, .int .i64 1]) ∧ Below w.heap.size w w')
section
variable {col : Col} {w : World} {k : Nat}
theorem new_rt (ht : Tidy col w) (hk : 1 ≤ k) {n : Nat} (hG : GoodT (newT n)) :
    DidRT col k w w.heap.size (newT n) (w.alloc (.cells #[.int .i64 1, .int .i64 n, .slice none 0 0, .int .u64 0, .int .u64 0] 52)) :=
  ⟨dye col (some w.heap.size) k, ⟨hG, _, _, ⟨heap_alloc_new w _, dye_of⟩, OwnKc.nil kEn _ _ _, hk⟩, StepC.newRow ht ((Below.refl _ _).alloc (Nat.le_refl _) _) fun b e => by injection e with e; subst e; exact ⟨Nat.le_refl _, by simp⟩⟩
set_option maxHeartbeats 1000000 in
theorem rtNew (ht : Tidy col w) (hk : 1 ≤ k) (m : Int) (hn : -9223372036854775808 ≤ m ∧ m ≤ 9223372036854775807) :
    Calls Try.prog 9 #[.int .i64 1, .int .i64 m] w (NewRT col k m w) := by
  obtain ⟨i1, i2⟩ := hn
  by_cases h1 : m < 1
  · have HE := Lib.hid (show svE m = 1 from if_pos (.inl h1))
    go_enter Try.func9, Try.ntmps9
    go_wp2
    go_ret2
    exact .inr ⟨HE.out, rfl, Below.refl _ _⟩
  by_cases h2 : 64 < m
  · have HE := Lib.hid (show svE m = 1 from if_pos (.inr h2))
    go_enter Try.func9, Try.ntmps9
    go_wp2
    go_ret2
    exact .inr ⟨HE.out, rfl, Below.refl _ _⟩
  obtain ⟨q, hq⟩ : ∃ q : Nat, m = q := ⟨m.toNat, by omega⟩
  subst hq
  have HE := Lib.hid (show svE q = 0 from if_neg (by omega))
  have HG := Lib.hid (newT_good (m := q) ⟨by omega, by omega⟩)
  have HM := Lib.hid (new_rt (n := q) ht hk HG.out)
  go_enter Try.func9, Try.ntmps9
  go_wp2
  go_ret2
  exact .inl ⟨HE.out, _, rfl, HM.out⟩
end
end Go.Proofs.Ytgkokglngpbamaa

/- The specified table (mode Frequent) in memory: the box, New, Untracked, Total, Get. Conditions: none beyond those typed. -/
namespace Go.Proofs.Ytgkokglngpbamaa
open Go.ChangeShapes Go.WideShapes Go.ChangeAt Go.RowKit
set_option linter.unusedVariables false
set_option linter.unusedSimpArgs false
set_option maxRecDepth 100000

/-- The specified table (mode Frequent): the box, the row of entries. -/
structure RefFB (col : Col) (k : Nat) (w : World) (g : Nat) (t : TSt) (A : Option Addr) (c : Nat) : Prop where
  box : BoxC col w g k #[.int .i64 2, .int .i64 t.m, .slice A t.l.length c, .int .u64 t.base, .int .u64 t.sum] 52
  row : OwnKc kEn col w (k + 1) (.slice A t.l.length c) t.l
  k1 : 1 ≤ k
def RefF (col : Col) (k : Nat) (w : World) (g : Nat) (t : TSt) : Prop := GoodF t ∧ ∃ A c, RefFB col k w g t A c
def DidRF (col : Col) (k : Nat) (w : World) (g : Nat) (t : TSt) (w' : World) : Prop := ∃ col', RefF col' k w' g t ∧ StepC (Rng k) col w col' w'
section
variable {P : Nat → Prop} {col col' : Col} {w w' : World} {k g : Nat} {t : TSt} {A : Option Addr} {c : Nat}
theorem RefFB.keep (h : RefFB col k w g t A c) (hs : StepC P col w col' w') (hp : ∀ c, Rng k c → ¬ P c) : RefFB col' k w' g t A c :=
  ⟨h.box.keep hs (hp _ ⟨Nat.le_refl _, by omega⟩), h.row.keep hs (hp _ ⟨by omega, by omega⟩), h.k1⟩
theorem RefFB.below (h : RefFB col k w g t A c) (ht : Tidy col w) (hb : Below w.heap.size w w') : RefFB col k w' g t A c := h.keep (P := fun _ => False) (StepC.below ht hb) (fun _ _ h => h)
theorem RefF.keep (h : RefF col k w g t) (hs : StepC P col w col' w') (hp : ∀ c, Rng k c → ¬ P c) : RefF col' k w' g t := by
  obtain ⟨G, A, c, H⟩ := h
  exact ⟨G, A, c, H.keep hs hp⟩
theorem RefF.below (h : RefF col k w g t) (ht : Tidy col w) (hb : Below w.heap.size w w') : RefF col k w' g t := h.keep (P := fun _ => False) (StepC.below ht hb) (fun _ _ h => h)
theorem rfUntr (H : RefF col k w g t) : Calls Try.prog 29 #[.pointer (some ⟨g, 0, none⟩)] w fun e w' => e = .returned (.int .u64 t.base) ∧ w = w' := by
  obtain ⟨G, A, c, H⟩ := H
  have x3 : w.cell? ⟨g, 3, none⟩ = some (.int .u64 t.base) := H.box.cell 3 rfl
  clear H G
  go_enter Try.func29, Try.ntmps29
  go_wp2
  go_ret
  exact ⟨rfl, rfl⟩
theorem rfTotal (H : RefF col k w g t) : Calls Try.prog 30 #[.pointer (some ⟨g, 0, none⟩)] w fun e w' => e = .returned (.int .u64 t.sum) ∧ w = w' := by
  obtain ⟨G, A, c, H⟩ := H
  have x4 : w.cell? ⟨g, 4, none⟩ = some (.int .u64 t.sum) := H.box.cell 4 rfl
  clear H G
  go_enter Try.func30, Try.ntmps30
  go_wp2
  go_ret
  exact ⟨rfl, rfl⟩
end
section
variable {P : Nat → Prop} {col col' : Col} {w w' : World} {k g : Nat} {t : TSt}
/-- The row of entries. -/
theorem RefF.rows (H : RefF col k w g t) : ∃ A c, w.cell? ⟨g, 2, none⟩ = some (.slice A t.l.length c) ∧ RdG kEn w A t.l.length c t.l ∧ t.l.length ≤ 64 ∧ w.cell? ⟨g, 0, none⟩ = some (.int .i64 2) ∧ w.cell? ⟨g, 3, none⟩ = some (.int .u64 t.base) := by
  obtain ⟨G, A, c, H⟩ := H
  exact ⟨A, c, H.box.cell 2 rfl, H.row.own.reads, by have := G.len; have := G.m1; omega, H.box.cell 0 rfl, H.box.cell 3 rfl⟩
set_option maxHeartbeats 2000000 in
theorem rfGet (H : RefF col k w g t) (ht : Tidy col w) (s : ByteArray) :
    Calls Try.prog 26 #[.pointer (some ⟨g, 0, none⟩), .string s] w fun e w' => e = .returned (.tuple #[.agg (VE (t.getF s).1), .bool (t.getF s).2]) ∧ Below w.heap.size w w' := by
  have b1 : Below w.heap.size w (w.alloc (.cells #[.string ⟨#[]⟩, .int .u64 0, .int .u64 0] 32)) := (Below.refl _ _).alloc (Nat.le_refl _) _
  have X1 : BoxC col (w.alloc (.cells #[.string ⟨#[]⟩, .int .u64 0, .int .u64 0] 32)) w.heap.size 0 (VE zeroE) 32 := ⟨heap_alloc_new w _, ht _ (Nat.le_refl _)⟩
  obtain ⟨A, c, x2, R, hl6, _, _⟩ := H.rows
  obtain ⟨_, _, y2, R1, _, _, _⟩ := (H.below ht b1).rows
  have e1 := y2
  rw [b1.cell (p := ⟨g, 2, none⟩) (World.block_lt_of_cell? w _ x2), x2] at e1
  injection e1 with e1; injection e1 with e1 e2 e3; subst e1 e3
  have hP := place_any R1 (by omega) s
  have hcap := R.cap
  have hmax := R.max
  have HH := Lib.hid (fun (W : World) (hb : Below w.heap.size w W) => (H.below ht hb).rows)
  have ht1 := ht.size b1.size
  obtain ⟨W1, hW1⟩ : ∃ W1, W1 = w.alloc (.cells #[.string ⟨#[]⟩, .int .u64 0, .int .u64 0] 32) := ⟨_, rfl⟩
  obtain ⟨G, hG⟩ : ∃ G, w.heap.size = G := ⟨_, rfl⟩
  have y2r := y2
  rw [← hW1] at X1 y2 hP ht1 b1
  rw [hG] at X1
  have hGW : G ≤ W1.heap.size := by rw [← hG]; exact b1.size
  clear R1 H x2
  unfold placeI at hP
  cases hp : placeE t.l s with
  | none =>
    rw [hp] at hP
    rw [show t.getF s = (zeroE, false) by unfold TSt.getF; rw [hp]]
    go_enter Try.func26, Try.ntmps26
    go_wp2_with fail
    rw [← hW1]
    clear hW1
    refine hP.mono ?_
    rintro e w2 ⟨rfl, b2⟩
    have X2 := X1.keep (P := fun _ => False) (StepC.below ht1 b2) (fun h => h)
    have y0 : w2.cell? ⟨G, 0, none⟩ = some (.string ⟨#[]⟩) := X2.cell 0 rfl
    have y1 : w2.cell? ⟨G, 1, none⟩ = some (.int .u64 0) := X2.cell 1 rfl
    have y3 : w2.cell? ⟨G, 2, none⟩ = some (.int .u64 0) := X2.cell 2 rfl
    have f0 := X2.free 0
    have f1 := X2.free 1
    have f2 := X2.free 2
    have HX := Lib.hid (vbox_en X2 (a := zeroE) zeroE).heap
    have HB := Lib.hid ((((below_then b1 b2).setCell (p := ⟨G, 0, none⟩) (by rw [hG]; exact Nat.le_refl _) (.string ⟨#[]⟩)).setCell (p := ⟨G, 1, none⟩) (by rw [hG]; exact Nat.le_refl _) (.int .u64 0)).setCell (p := ⟨G, 2, none⟩) (by rw [hG]; exact Nat.le_refl _) (.int .u64 0))
    clear X1 X2 hP b1 b2 hG hGW y2 y2r R
    go_wp2
    refine bodyPost_ret (results_cell_row2 rfl _ _ G _ _ (0, 0) _ rfl HX.out Try.underlying32 rfl (by kernel_rfl)) rfl ?_
    exact ⟨rfl, HB.out⟩
  | some i =>
    rw [hp] at hP
    obtain ⟨e0, he0, -, hil⟩ := placeE_some hp
    have hiI : (i : Int) < (t.l.length : Int) := by omega
    rw [show t.getF s = (t.tellF e0, true) by unfold TSt.getF; rw [hp]; show (t.tellF ((t.l[i]?).getD zeroE), true) = _; rw [he0]; rfl]
    obtain ⟨bs, hbs⟩ : ∃ z, t.base = z := ⟨_, rfl⟩
    have hte : t.tellF e0 = (e0.1, e0.2.1, bs) := by unfold TSt.tellF; rw [hbs]
    rw [hte]
    go_enter Try.func26, Try.ntmps26
    go_wp2_with fail
    rw [← hW1]
    clear hW1
    refine hP.mono ?_
    rintro e w2 ⟨rfl, b2⟩
    have bw := below_then b1 b2
    obtain ⟨A2, c2, x2, R2, _, x0, x3⟩ := HH.out w2 bw
    rw [hbs] at x3
    obtain ⟨b, o, e5, rfl, h5, z0, z1, z2⟩ := R2.atEn hil
    rw [he0] at h5
    injection h5 with h5
    subst h5
    have hcap2 := R2.cap
    have hmax2 := R2.max
    have X2 := X1.keep (P := fun _ => False) (StepC.below ht1 b2) (fun h => h)
    have v0 : w2.cell? ⟨G, 0, none⟩ = some (.string ⟨#[]⟩) := X2.cell 0 rfl
    have B3 := bw.alloc bw.size (.cells (VE e0) 32)
    have B3' := bw.alloc bw.size (.cells (VE (e0.1, e0.2.1, bs)) 32)
    have X3 : BoxC col (w2.alloc (.cells (VE (e0.1, e0.2.1, bs)) 32)) G 0 (VE zeroE) 32 := X2.keep (P := fun _ => False) (StepC.alloc (ht1.size b2.size) _) (fun h => h)
    have g0 : (w2.alloc (.cells (VE (e0.1, e0.2.1, bs)) 32)).cell? ⟨G, 0, none⟩ = some (.string ⟨#[]⟩) := X3.cell 0 rfl
    have g1 : (w2.alloc (.cells (VE (e0.1, e0.2.1, bs)) 32)).cell? ⟨G, 1, none⟩ = some (.int .u64 0) := X3.cell 1 rfl
    have g2 : (w2.alloc (.cells (VE (e0.1, e0.2.1, bs)) 32)).cell? ⟨G, 2, none⟩ = some (.int .u64 0) := X3.cell 2 rfl
    have f0 := X3.free 0
    have f1 := X3.free 1
    have f2 := X3.free 2
    have m0 : (w2.alloc (.cells (VE e0) 32)).cell? ⟨w2.heap.size, 2, none⟩ = some (.int .u64 e0.2.2) := (World.cell?_alloc_at (w := w2) _ _ _ _ rfl).trans rfl
    have n0 : (w2.alloc (.cells (VE (e0.1, e0.2.1, bs)) 32)).cell? ⟨w2.heap.size, 0, none⟩ = some (.string e0.1) := (World.cell?_alloc_at (w := w2) _ _ _ _ rfl).trans rfl
    have n1 : (w2.alloc (.cells (VE (e0.1, e0.2.1, bs)) 32)).cell? ⟨w2.heap.size, 1, none⟩ = some (.int .u64 e0.2.1) := (World.cell?_alloc_at (w := w2) _ _ _ _ rfl).trans rfl
    have n2 : (w2.alloc (.cells (VE (e0.1, e0.2.1, bs)) 32)).cell? ⟨w2.heap.size, 2, none⟩ = some (.int .u64 bs) := (World.cell?_alloc_at (w := w2) _ _ _ _ rfl).trans rfl
    have x0' : (w2.alloc (.cells (VE e0) 32)).cell? ⟨g, 0, none⟩ = some (.int .i64 2) := (HH.out _ B3).choose_spec.choose_spec.2.2.2.1
    have x3' : (w2.alloc (.cells (VE e0) 32)).cell? ⟨g, 3, none⟩ = some (.int .u64 bs) := by rw [← hbs]; exact (HH.out _ B3).choose_spec.choose_spec.2.2.2.2
    have HX := Lib.hid (vbox_en X3 (a := zeroE) (e0.1, e0.2.1, bs)).heap
    have HB := Lib.hid (((B3'.setCell (p := ⟨G, 0, none⟩) (by rw [hG]; exact Nat.le_refl _) (.string e0.1)).setCell (p := ⟨G, 1, none⟩) (by rw [hG]; exact Nat.le_refl _) (.int .u64 e0.2.1)).setCell (p := ⟨G, 2, none⟩) (by rw [hG]; exact Nat.le_refl _) (.int .u64 bs))
    clear X1 X2 X3 hP b1 b2 bw B3 B3' hG hGW R R2 HH he0 hp v0 y2 y2r hte hbs
    go_wp2
    refine bodyPost_ret (results_cell_row2 rfl _ _ G _ _ (0, 0) _ rfl HX.out Try.underlying32 rfl (by kernel_rfl)) rfl ?_
    exact ⟨rfl, HB.out⟩
theorem RefF.paint {G d : Nat} (H : RefF col k w g t) (h0 : col G = 0) : RefF (dye col (some G) d) k w g t := by
  obtain ⟨hG, A, c, h⟩ := H
  have hk := h.k1
  have hc : ∀ q c, col q = c → 1 ≤ c → dye col (some G) d q = c := fun q c hq h1 => by
    rw [dye_no (fun e => by injection e with e; subst e; omega)]; exact hq
  exact ⟨hG, A, c, ⟨h.box.heap, hc _ _ h.box.col hk⟩, ⟨h.row.own, fun q hq => hc _ _ (h.row.col q hq) (by omega)⟩, hk⟩
/-- An entry is written into a new block. -/
theorem RefF.inNew {G : Nat} {w0 : World} {col0 : Col} (H : RefF col k w g t) (hs : StepC (Rng k) col0 w0 col w) (h0 : col G = 0) (h1 : w0.heap.size ≤ G) (h2 : G < w.heap.size) (e : En) :
    ∃ col', RefF col' k (((w.setCell ⟨G, 0, none⟩ (.string e.1)).setCell ⟨G, 1, none⟩ (.int .u64 e.2.1)).setCell ⟨G, 2, none⟩ (.int .u64 e.2.2)) g t ∧ StepC (Rng k) col0 w0 col' (((w.setCell ⟨G, 0, none⟩ (.string e.1)).setCell ⟨G, 1, none⟩ (.int .u64 e.2.1)).setCell ⟨G, 2, none⟩ (.int .u64 e.2.2)) := by
  have hk : 1 ≤ k := by obtain ⟨_, _, _, h⟩ := H; exact h.k1
  have M1 := H.paint (d := k + 16) h0
  have S1 := hs.paint (d := k + 16) h1 h2
  have t1 := StepC.set (P := fun d => d = k + 16) S1.tidy (a := ⟨G, 0, none⟩) dye_of (.string e.1)
  have t2 := StepC.set (P := fun d => d = k + 16) t1.tidy (a := ⟨G, 1, none⟩) dye_of (.int .u64 e.2.1)
  have t3 := StepC.set (P := fun d => d = k + 16) t2.tidy (a := ⟨G, 2, none⟩) dye_of (.int .u64 e.2.2)
  exact ⟨_, M1.keep ((t1.trans t2).trans t3) (fun c hc e => by have := hc.2; omega), ((S1.inNew (a := ⟨G, 0, none⟩) h1 _).inNew (a := ⟨G, 1, none⟩) h1 _).inNew (a := ⟨G, 2, none⟩) h1 _⟩
/-- A row in new memory takes the place of the row. -/
theorem RefFB.newRow {A A' : Option Addr} {c c' N : Nat} {l' : List En} (h : RefFB col k w g t A c) (ht : Tidy col w) (hB : Below w.heap.size w w') (hN : l'.length = N) (hO : OwnK kEn w' (.slice A' N c') l') (hW : New w (.slice A' N c')) :
    ∃ col', RefFB col' k (w'.setCell ⟨g, 2, none⟩ (.slice A' N c')) g { t with l := l' } A' c' ∧ StepC (Rng k) col w col' (w'.setCell ⟨g, 2, none⟩ (.slice A' N c')) := by
  subst hN
  have hk := h.k1
  have s1 : StepC (fun _ => False) col w (dye col (Value.slice A' l'.length c').ownBlock (k + 1)) w' := StepC.newRow ht hB fun b e => ⟨hW b e, hO.lt b e⟩
  have b1 := h.box.keep s1 (fun h => h)
  have s2 := StepC.set (P := fun d => d = k) s1.tidy (a := ⟨g, 2, none⟩) b1.col (.slice A' l'.length c')
  exact ⟨_, ⟨b1.put 2 _, (OwnKc.mk' (c := k + 1) kEn hO).keep s2 (by omega), hk⟩, (s1.mono fun _ h => h.elim).trans (s2.mono fun c e => ⟨by omega, by omega⟩)⟩
end
def NewRF (col : Col) (k : Nat) (m : Int) (w : World) (e : Ending) (w' : World) : Prop :=
  (svE m = 0 ∧ ∃ g, e = .returned (.tuple #[.pointer (some ⟨g, 0, none⟩), .int .i64 0]) ∧ DidRF col k w g (newT m.toNat) w') ∨ (svE m = 1 ∧ e = .returned (.tuple #[.pointer none, .int .i64 1]) ∧ Below w.heap.size w w')
section
variable {col : Col} {w : World} {k : Nat}
theorem new_rf (ht : Tidy col w) (hk : 1 ≤ k) {n : Nat} (hG : GoodF (newT n)) :
    DidRF col k w w.heap.size (newT n) (w.alloc (.cells #[.int .i64 2, .int .i64 n, .slice none 0 0, .int .u64 0, .int .u64 0] 52)) :=
  ⟨dye col (some w.heap.size) k, ⟨hG, _, _, ⟨heap_alloc_new w _, dye_of⟩, OwnKc.nil kEn _ _ _, hk⟩, StepC.newRow ht ((Below.refl _ _).alloc (Nat.le_refl _) _) fun b e => by injection e with e; subst e; exact ⟨Nat.le_refl _, by simp⟩⟩
set_option maxHeartbeats 1000000 in
theorem rfNew (ht : Tidy col w) (hk : 1 ≤ k) (m : Int) (hn : -9223372036854775808 ≤ m ∧ m ≤ 9223372036854775807) :
    Calls Try.prog 9 #[.int .i64 2, .int .i64 m] w (NewRF col k m w) := by
  obtain ⟨i1, i2⟩ := hn
  by_cases h1 : m < 1
  · have HE := Lib.hid (show svE m = 1 from if_pos (.inl h1))
    go_enter Try.func9, Try.ntmps9
    go_wp2
    go_ret2
    exact .inr ⟨HE.out, rfl, Below.refl _ _⟩
  by_cases h2 : 64 < m
  · have HE := Lib.hid (show svE m = 1 from if_pos (.inr h2))
    go_enter Try.func9, Try.ntmps9
    go_wp2
    go_ret2
    exact .inr ⟨HE.out, rfl, Below.refl _ _⟩
  obtain ⟨q, hq⟩ : ∃ q : Nat, m = q := ⟨m.toNat, by omega⟩
  subst hq
  have HE := Lib.hid (show svE q = 0 from if_neg (by omega))
  have HG := Lib.hid (newF_good (m := q) ⟨by omega, by omega⟩)
  have HM := Lib.hid (new_rf (n := q) ht hk HG.out)
  go_enter Try.func9, Try.ntmps9
  go_wp2
  go_ret2
  exact .inl ⟨HE.out, _, rfl, HM.out⟩
end
end Go.Proofs.Ytgkokglngpbamaa
