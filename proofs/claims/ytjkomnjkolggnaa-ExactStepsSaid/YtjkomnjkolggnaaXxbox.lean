/- The program's exact counters in memory: the box and its row; find, count, New, Len, Entries, Get. Conditions: none beyond those typed. -/
import Derived.Test.YtjkomnjkolggnaaExprog
import Derived.Test.YtjkomnjkolggnaaSvbox
import Derived.Test.YtjkomnjkolggnaaXbsf
import Derived.Test.YtjkomnjkolggnaaXput
import Derived.Deep.CutRange
namespace Go.Proofs.Ytjkomnjkolggnaa
open Go.ChangeShapes Go.WideShapes Go.ChangeAt Go.RowKit
set_option linter.unusedVariables false
set_option linter.unusedSimpArgs false
set_option maxRecDepth 100000

/-- The store: the box, the row of entries. -/
structure SxB (col : Col) (k : Nat) (w : World) (g : Nat) (t : ExSt) (A : Option Addr) (c : Nat) : Prop where
  box : BoxC col w g k #[.slice A t.l.length c, .int .i64 t.n] 58
  row : OwnKc kEn col w (k + 1) (.slice A t.l.length c) t.l
  k1 : 1 ≤ k
def PXs (col : Col) (k : Nat) (w : World) (g : Nat) (t : ExSt) : Prop := GoodX t ∧ ∃ A c, SxB col k w g t A c
section
variable {P : Nat → Prop} {col col' : Col} {w w' : World} {k g : Nat} {t : ExSt} {A : Option Addr} {c : Nat} {l : List En} {s : ByteArray}
theorem SxB.keep (h : SxB col k w g t A c) (hs : StepC P col w col' w') (hp : ∀ c, Rng k c → ¬ P c) : SxB col' k w' g t A c :=
  ⟨h.box.keep hs (hp _ ⟨Nat.le_refl _, by omega⟩), h.row.keep hs (hp _ ⟨by omega, by omega⟩), h.k1⟩
theorem SxB.below (h : SxB col k w g t A c) (ht : Tidy col w) (hb : Below w.heap.size w w') : SxB col k w' g t A c := h.keep (P := fun _ => False) (StepC.below ht hb) (fun _ _ h => h)
theorem PXs.keep (h : PXs col k w g t) (hs : StepC P col w col' w') (hp : ∀ c, Rng k c → ¬ P c) : PXs col' k w' g t := by
  obtain ⟨G, A, c, H⟩ := h
  exact ⟨G, A, c, H.keep hs hp⟩
theorem PXs.below (h : PXs col k w g t) (ht : Tidy col w) (hb : Below w.heap.size w w') : PXs col k w' g t := h.keep (P := fun _ => False) (StepC.below ht hb) (fun _ _ h => h)
theorem PXs.rows (H : PXs col k w g t) : ∃ A c, w.cell? ⟨g, 0, none⟩ = some (.slice A t.l.length c) ∧ RdG kEn w A t.l.length c t.l ∧ t.l.length ≤ 64 := by
  obtain ⟨G, A, c, H⟩ := H
  exact ⟨A, c, H.box.cell 0 rfl, H.row.own.reads, by have := G.len; have := G.n1; omega⟩
/-- The place of a key, and whether it is there. -/
theorem atK_yes (h : atK l s = true) : ∃ e, l[placeM l s]? = some e ∧ e.1 = s ∧ placeE l s = some (placeM l s) ∧ placeM l s < l.length := by
  unfold atK at h
  cases hp : l[placeM l s]? with
  | none => rw [hp] at h; cases h
  | some e =>
    rw [hp] at h
    have he : e.1 = s := of_decide_eq_true h
    refine ⟨e, rfl, he, placeE_at hp he fun j x hj hx => ?_, (List.getElem?_eq_some_iff.1 hp).1⟩
    exact sless_ne (place_before hj hx)
theorem atK_no (hS : Srt l) (h : atK l s = false) : placeE l s = none := by
  have hl : lookM l s = none := by
    rw [look_place hS]
    unfold atK at h
    cases hp : l[placeM l s]? with
    | none => rfl
    | some e =>
      rw [hp] at h
      have he : ¬ e.1 = s := of_decide_eq_false h
      show (if e.1 = s then some e.2 else none) = none
      rw [if_neg he]
  refine placeE_gone fun j x hx he => ?_
  have := look_at hS hx
  rw [he, hl] at this
  cases this
theorem ins_sorted {e : En} (hS : Srt l) (hn : (l.map Prod.fst).Nodup) (h : placeE l e.1 = none) : l.take (placeM l e.1) ++ e :: l.drop (placeM l e.1) = sortE (l ++ [e]) := by
  have hno := placeE_none h
  have hl : lookM l e.1 = none := by
    cases hk : lookM l e.1 with
    | none => rfl
    | some v => exact absurd rfl (hno (e.1, v) ((look_mem hS).1 hk))
  have hn1 : ((l ++ [e]).map Prod.fst).Nodup := by
    rw [List.map_append]
    refine List.nodup_append.2 ⟨hn, by simp, fun a ha b hb hab => ?_⟩
    obtain ⟨x, hx, rfl⟩ := List.mem_map.1 ha
    simp at hb
    exact hno x hx (by rw [hab, hb])
  have h1 : Srt (l.take (placeM l e.1) ++ e :: l.drop (placeM l e.1)) := add_srt (v := e.2) hS hl
  refine srt_same_mem h1 (sortE_srt hn1) fun x => ?_
  have h3 : x ∈ sortE (l ++ [e]) ↔ x ∈ l ∨ x = e := by rw [(sortE_perm (l ++ [e])).mem_iff, List.mem_append, List.mem_singleton]
  have h2 : x ∈ l.take (placeM l e.1) ++ e :: l.drop (placeM l e.1) ↔ x = e ∨ x ∈ l := add_mem (v := e.2)
  rw [h2, h3]
  exact or_comm
set_option maxHeartbeats 1000000 in
theorem xfind (hc : w.cell? ⟨g, 0, none⟩ = some (.slice A l.length c)) (hR : RdG kEn w A l.length c l) (hS : Srt l) (hn : l.length ≤ 64) (s : ByteArray) :
    Calls Try.prog 27 #[.pointer (some ⟨g, 0, none⟩), .string s] w fun e w' => e = .returned (.tuple #[.int .i64 (placeM l s), .bool (atK l s)]) ∧ Below w.heap.size w w' := by
  have b1 : Below w.heap.size w (w.alloc (.cells #[.func (.func 42) #[] #[]] 76)) := (Below.refl _ _).alloc (Nat.le_refl _) _
  have hk : KeyBox (w.alloc (.cells #[.func (.func 42) #[] #[]] 76)) w.heap.size := (World.cell?_alloc_at (w := w) _ _ _ _ rfl).trans rfl
  have hB := bsfE_any (hR.below b1) hS (by omega) s hk
  have HB := Lib.hid b1
  have hSr : Calls Try.prog 41 #[.slice A l.length c, .string s, .func (.func 42) #[] #[]] w fun e w' => e = .returned (.tuple #[.int .i64 (placeM l s), .bool (atK l s)]) ∧ Below w.heap.size w w' := by
    clear hc hR hS hk b1
    go_enter Try.func41, Try.ntmps41
    go_wp2_with (go_at_call 46; refine hB.mono ?_; rintro e w' ⟨rfl, b2⟩)
    go_ret2
    exact ⟨rfl, below_then HB.out b2⟩
  clear hB hR hS hk b1
  go_enter Try.func27, Try.ntmps27
  go_wp2_with (go_at_call 41; refine hSr.mono ?_; rintro e w' ⟨rfl, b2⟩)
  go_ret2
  exact ⟨rfl, b2⟩
theorem xfindN (s : ByteArray) (w : World) : Calls Try.prog 27 #[.pointer none, .string s] w fun e w' => e = .returned (.tuple #[.int .i64 0, .bool false]) ∧ w' = w := by
  go_enter Try.func27, Try.ntmps27
  go_wp2
  go_ret2
  exact ⟨rfl, rfl⟩
theorem xcount (e : En) (h : IntKind.u64.wrap (e.2.1 + e.2.2) = ctE e) (w : World) : Calls Try.prog 29 #[.agg (VE e)] w fun r w' => r = .returned (.int .u64 (ctE e)) ∧ Below w.heap.size w w' := by
  have v1 : (w.alloc (.cells (VE e) 32)).cell? ⟨w.heap.size, 1, none⟩ = some (.int .u64 e.2.1) := (World.cell?_alloc_at (w := w) _ _ _ _ rfl).trans rfl
  have v2 : (w.alloc (.cells (VE e) 32)).cell? ⟨w.heap.size, 2, none⟩ = some (.int .u64 e.2.2) := (World.cell?_alloc_at (w := w) _ _ _ _ rfl).trans rfl
  have HB := Lib.hid (show Below w.heap.size w (w.alloc (.cells (VE e) 32)) from (Below.refl _ _).alloc (Nat.le_refl _) _)
  obtain ⟨y, hy⟩ : ∃ y, ctE e = y := ⟨_, rfl⟩
  rw [hy] at h ⊢
  clear hy
  go_enter Try.func29, Try.ntmps29
  go_wp2
  go_ret
  exact ⟨rfl, HB.out⟩
theorem xLen (H : PXs col k w g t) : Calls Try.prog 14 #[.pointer (some ⟨g, 0, none⟩)] w fun e w' => e = .returned (.int .i64 t.l.length) ∧ Below w.heap.size w w' := by
  obtain ⟨A, c, y, _⟩ := H.rows
  clear H
  go_enter Try.func14, Try.ntmps14
  go_wp2
  go_ret
  exact ⟨rfl, Below.refl _ _⟩
theorem xEntries (H : PXs col k w g t) : Calls Try.prog 15 #[.pointer (some ⟨g, 0, none⟩)] w (RowOut kEn w t.l) := by
  obtain ⟨A, c, y, R, hn⟩ := H.rows
  have hC := cloneE_any R (by omega)
  clear H R hn
  go_enter Try.func15, Try.ntmps15
  go_wp2_with (go_at_call 33; refine hC.mono ?_; rintro e w' ⟨A', n', c', h1, rfl, h2⟩)
  go_ret
  exact ⟨A', n', c', h1, rfl, h2⟩
theorem new_px (ht : Tidy col w) (hk : 1 ≤ k) {n : Nat} (hG : GoodX (newX n)) :
    DidPX PXs col k w w.heap.size (newX n) (w.alloc (.cells #[.slice none 0 0, .int .i64 n] 58)) :=
  ⟨dye col (some w.heap.size) k, ⟨hG, _, _, ⟨heap_alloc_new w _, dye_of⟩, OwnKc.nil kEn _ _ _, hk⟩, StepC.newRow ht ((Below.refl _ _).alloc (Nat.le_refl _) _) fun b e => by injection e with e; subst e; exact ⟨Nat.le_refl _, by simp⟩⟩
set_option maxHeartbeats 1000000 in
theorem xNew (ht : Tidy col w) (hk : 1 ≤ k) (m : Int) (hn : J64 m) : Calls Try.prog 7 #[.int .i64 m] w (NewPX PXs col k m w) := by
  obtain ⟨i1, i2⟩ := hn
  by_cases h1 : m < 0
  · have HE := Lib.hid (show xsE m = 1 from if_pos (.inl h1))
    go_enter Try.func7, Try.ntmps7
    go_wp2
    go_ret2
    exact .inr ⟨HE.out, rfl, Below.refl _ _⟩
  by_cases h2 : 32 < m
  · have HE := Lib.hid (show xsE m = 1 from if_pos (.inr h2))
    go_enter Try.func7, Try.ntmps7
    go_wp2
    go_ret2
    exact .inr ⟨HE.out, rfl, Below.refl _ _⟩
  obtain ⟨q, hq⟩ : ∃ q : Nat, m = q := ⟨m.toNat, by omega⟩
  subst hq
  have HE := Lib.hid (show xsE q = 0 from if_neg (by omega))
  have HG := Lib.hid (newX_good (n := q) (by omega))
  have HM := Lib.hid (new_px (n := q) ht hk HG.out)
  go_enter Try.func7, Try.ntmps7
  go_wp2
  go_ret2
  exact .inl ⟨HE.out, _, rfl, HM.out⟩
set_option maxHeartbeats 2000000 in
theorem xGet (H : PXs col k w g t) (ht : Tidy col w) (s : ByteArray) :
    Calls Try.prog 9 #[.pointer (some ⟨g, 0, none⟩), .string s] w fun e w' => e = .returned (.tuple #[.agg (VE (t.get s).1), .bool (t.get s).2]) ∧ Below w.heap.size w w' := by
  have b1 : Below w.heap.size w (w.alloc (.cells #[.string ⟨#[]⟩, .int .u64 0, .int .u64 0] 32)) := (Below.refl _ _).alloc (Nat.le_refl _) _
  have X1 : BoxC col (w.alloc (.cells #[.string ⟨#[]⟩, .int .u64 0, .int .u64 0] 32)) w.heap.size 0 (VE zeroE) 32 := ⟨heap_alloc_new w _, ht _ (Nat.le_refl _)⟩
  have hS := H.1.srt
  obtain ⟨A, c, x2, R, hl6⟩ := H.rows
  obtain ⟨_, _, y2, R1, _⟩ := (H.below ht b1).rows
  have e1 := y2
  rw [b1.cell (p := ⟨g, 0, none⟩) (World.block_lt_of_cell? w _ x2), x2] at e1
  injection e1 with e1; injection e1 with e1 e2 e3; subst e1 e3
  have hP := xfind y2 R1 hS hl6 s
  have hcap := R.cap
  have hmax := R.max
  have HH := Lib.hid (fun (W : World) (hb : Below w.heap.size w W) => (H.below ht hb).rows)
  have ht1 := ht.size b1.size
  obtain ⟨W1, hW1⟩ : ∃ W1, W1 = w.alloc (.cells #[.string ⟨#[]⟩, .int .u64 0, .int .u64 0] 32) := ⟨_, rfl⟩
  obtain ⟨G, hG⟩ : ∃ G, w.heap.size = G := ⟨_, rfl⟩
  have y2r := y2
  rw [← hW1] at X1 y2 hP ht1 b1
  rw [hG] at X1
  clear R1 H x2
  cases ha : atK t.l s with
  | false =>
    have hp := atK_no hS ha
    rw [ha] at hP
    rw [show t.get s = (zeroE, false) by unfold ExSt.get; rw [hp]]
    clear hp
    go_enter Try.func9, Try.ntmps9
    go_wp2_with fail
    rw [← hW1]
    clear hW1
    refine hP.mono ?_
    rintro e w2 ⟨rfl, b2⟩
    have X2 := X1.keep (P := fun _ => False) (StepC.below ht1 b2) (fun h => h)
    have y0 : w2.cell? ⟨G, 0, none⟩ = some (.string ⟨#[]⟩) := X2.cell 0 rfl
    have y1 : w2.cell? ⟨G, 1, none⟩ = some (.int .u64 0) := X2.cell 1 rfl
    have y3 : w2.cell? ⟨G, 2, none⟩ = some (.int .u64 0) := X2.cell 2 rfl
    have f0 := X2.free 0
    have f1 := X2.free 1
    have f2 := X2.free 2
    have HX := Lib.hid (vbox_en X2 (a := zeroE) zeroE).heap
    have HB := Lib.hid ((((below_then b1 b2).setCell (p := ⟨G, 0, none⟩) (by rw [hG]; exact Nat.le_refl _) (.string ⟨#[]⟩)).setCell (p := ⟨G, 1, none⟩) (by rw [hG]; exact Nat.le_refl _) (.int .u64 0)).setCell (p := ⟨G, 2, none⟩) (by rw [hG]; exact Nat.le_refl _) (.int .u64 0))
    clear X1 X2 hP b1 b2 hG y2 y2r R
    go_wp2
    refine bodyPost_ret (results_cell_row2 rfl _ _ G _ _ (0, 0) _ rfl HX.out Try.underlying32 rfl (by kernel_rfl)) rfl ?_
    exact ⟨rfl, HB.out⟩
  | true =>
    obtain ⟨e0, he0, -, hp, hil⟩ := atK_yes ha
    rw [ha] at hP
    generalize placeM t.l s = i at *
    have hiI : (i : Int) < (t.l.length : Int) := by omega
    rw [show t.get s = (e0, true) from getX_some hp he0]
    go_enter Try.func9, Try.ntmps9
    go_wp2_with fail
    rw [← hW1]
    clear hW1
    refine hP.mono ?_
    rintro e w2 ⟨rfl, b2⟩
    have bw := below_then b1 b2
    obtain ⟨A2, c2, x2, R2, _⟩ := HH.out w2 bw
    obtain ⟨b, o, e5, rfl, h5, z0, z1, z2⟩ := R2.atEn hil
    rw [he0] at h5
    injection h5 with h5
    subst h5
    have hcap2 := R2.cap
    have hmax2 := R2.max
    have X2 := X1.keep (P := fun _ => False) (StepC.below ht1 b2) (fun h => h)
    have g0 : w2.cell? ⟨G, 0, none⟩ = some (.string ⟨#[]⟩) := X2.cell 0 rfl
    have g1 : w2.cell? ⟨G, 1, none⟩ = some (.int .u64 0) := X2.cell 1 rfl
    have g2 : w2.cell? ⟨G, 2, none⟩ = some (.int .u64 0) := X2.cell 2 rfl
    have f0 := X2.free 0
    have f1 := X2.free 1
    have f2 := X2.free 2
    have HX := Lib.hid (vbox_en X2 (a := zeroE) e0).heap
    have HB := Lib.hid (((bw.setCell (p := ⟨G, 0, none⟩) (by rw [hG]; exact Nat.le_refl _) (.string e0.1)).setCell (p := ⟨G, 1, none⟩) (by rw [hG]; exact Nat.le_refl _) (.int .u64 e0.2.1)).setCell (p := ⟨G, 2, none⟩) (by rw [hG]; exact Nat.le_refl _) (.int .u64 e0.2.2))
    clear X1 X2 hP b1 b2 bw hG R R2 HH he0 hp y2 y2r
    go_wp2
    refine bodyPost_ret (results_cell_row2 rfl _ _ G _ _ (0, 0) _ rfl HX.out Try.underlying32 rfl (by kernel_rfl)) rfl ?_
    exact ⟨rfl, HB.out⟩
end
end Go.Proofs.Ytjkomnjkolggnaa
