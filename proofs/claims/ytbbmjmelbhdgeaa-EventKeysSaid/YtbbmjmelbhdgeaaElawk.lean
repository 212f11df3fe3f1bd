/- heavykeyslaw04.EventKeys returns true, whatever the input. Conditions: none beyond those typed. -/
import Derived.Test.YtbbmjmelbhdgeaaElawi
namespace Go.Proofs.Ytbbmjmelbhdgeaa
open Go.ChangeShapes Go.WideShapes Go.ChangeAt Go.RowKit
set_option linter.unusedVariables false
set_option linter.unusedSimpArgs false
set_option maxRecDepth 100000

theorem kind_fErr {z : Int} (hz : z ≠ 0) : ∀ {l : List Tg}, (∀ t ∈ l, vErr t = 0 ∨ vErr t = z) → fErr l = if ∀ t ∈ l, vErr t = 0 then 0 else z
  | [], _ => by simp [fErr]
  | t :: r, h => by
    have ih := kind_fErr hz (l := r) fun x hx => h x (by simp [hx])
    unfold fErr
    rcases h t (by simp) with h0 | h0
    · rw [if_pos h0, ih]
      by_cases hc : ∀ x ∈ r, vErr x = 0
      · rw [if_pos hc, if_pos (fun x hx => by rcases List.mem_cons.1 hx with rfl | hx; exact h0; exact hc x hx)]
      · rw [if_neg hc, if_neg (fun a => hc fun x hx => a x (by simp [hx]))]
    · rw [if_neg (by rw [h0]; exact hz), h0, if_neg]
      intro hall
      have := hall t (by simp)
      rw [h0] at this; exact hz this
theorem kind_perm {z : Int} {l m : List Tg} (h : l.Perm m) (hl : ∀ t ∈ l, vErr t = 0 ∨ vErr t = z) : keyErr l = keyErr m ∧ keyBy l = keyBy m := by
  by_cases h0 : sortErr l = 0
  · obtain ⟨a, b⟩ := key_perm h h0; exact ⟨a.symm, b.symm⟩
  · have hm : ∀ t ∈ m, vErr t = 0 ∨ vErr t = z := fun t ht => hl t (h.mem_iff.2 ht)
    have e : sortErr m = sortErr l := by
      by_cases hz : z = 0
      · subst hz
        have a1 : fErr l = 0 := fErr_zero.2 fun t ht => by rcases hl t ht with h | h <;> exact h
        have a2 : fErr m = 0 := fErr_zero.2 fun t ht => by rcases hm t ht with h | h <;> exact h
        unfold sortErr
        rw [a1, a2, h.length_eq, dup_perm h]
      · unfold sortErr
        rw [kind_fErr hz hl, kind_fErr hz hm, h.length_eq, dup_perm h]
        have : (∀ t ∈ l, vErr t = 0) ↔ (∀ t ∈ m, vErr t = 0) := ⟨fun a t ht => a t (h.mem_iff.2 ht), fun a t ht => a t (h.mem_iff.1 ht)⟩
        by_cases hc : ∀ t ∈ m, vErr t = 0
        · rw [if_pos (this.2 hc), if_pos hc]
        · rw [if_neg (fun a => hc (this.1 a)), if_neg hc]
    have e1 : keyErr l = sortErr l := by unfold keyErr; rw [if_neg h0]
    have e2 : keyErr m = sortErr l := by unfold keyErr; rw [e, if_neg h0]
    refine ⟨e1.trans e2.symm, ?_⟩
    unfold keyBy; rw [e1, e2, if_neg h0, if_neg h0]
theorem it_perm {l m : List Tg} (h : l.Perm m) (ho : OneErr l) (t x : Int) : itE m t x = itE l t x ∧ itV m t x = itV l t x := by
  obtain ⟨z, hz⟩ := ho.1
  obtain ⟨a, b⟩ := kind_perm h hz
  have e : itE m t x = itE l t x := by unfold itE; rw [a]
  exact ⟨e, by unfold itV; rw [e, b]⟩

/-- Tags do not lie in an event's box. -/
theorem RdT.off {W : World} {A : Option Addr} {n c : Nat} {l : List Tg} {g : Nat} {A' : Option Addr} {n' c' : Nat} {t x : Int} (h : RdT W A n c l) (hE : EBox W g A' n' c' t x) (i : Nat) (v : Value) : RdT (W.setCell ⟨g, i, none⟩ v) A n c l := by
  refine ⟨h.1, h.2.1, h.2.2.1, h.2.2.2.1, fun j y hy => ?_⟩
  obtain ⟨b, o, hA, c0, c1⟩ := h.2.2.2.2 j y hy
  have hne : b ≠ g := by
    rintro rfl
    have hh : W.heap[b]? = _ := hE
    rw [cell_of_row W b (o + j * 2) _ _ (0, 0) hh] at c0
    generalize o + j * 2 = q at c0
    match q, c0 with
    | 0, c0 => simp at c0
    | 1, c0 => simp at c0
    | 2, c0 => simp at c0
    | q + 3, c0 => simp at c0
  refine ⟨b, o, hA, ?_, ?_⟩
  · rw [World.cell?_setCell_other _ _ _ _ (by simp [hne])]; exact c0
  · rw [World.cell?_setCell_other _ _ _ _ (by simp [hne])]; exact c1
theorem EBox.off {w : World} {g g' : Nat} {A : Option Addr} {n c : Nat} {t x : Int} (h : EBox w g A n c t x) (hne : g' ≠ g) (i : Nat) (v : Value) : EBox (w.setCell ⟨g', i, none⟩ v) g A n c t x :=
  h.far (by simp [World.setCell, Array.getElem?_modify, hne])
theorem rev_next {l : List Tg} {k : Nat} {p q : ByteArray} (h : l[k]? = some (p, q)) : (p, q) :: (l.take k).reverse = (l.take (k + 1)).reverse := by
  rw [List.take_add_one, h]; simp

set_option maxHeartbeats 1000000 in
theorem eventKeys_walk (B : Option Addr) (m d : Nat) (w : World) (hB : RdI w B m d) :
    Calls Try.prog 8 #[.slice B m d] w (Yes w) := by
  have hD := Dk.new hB
  go_enter Try.func8, Try.ntmps8
  go_wp2_with fail
  refine (new_any _ _ _ _).mono ?_
  rintro e w1 ⟨rfl, rfl⟩
  go_wp2_with fail
  refine (devent_any _ hD).mono ?_
  rintro e w2 ⟨A, n, c, l, x, rfl, hR2, hn3, h1, hx, hD2, hg2⟩
  have hB2 : Below w.heap.size w w2 := hD2.low
  have HO := Lib.hid h1
  have HLN := Lib.hid hR2.len
  clear hD hg2 hD2 h1
  have hE3 := EBox.new w2 A n c 9 x
  have hb3 : Below w2.heap.size w2 (w2.alloc (.cells #[.slice A n c, .int .i64 9, .int .u64 x] 25)) := (Below.refl _ _).alloc (Nat.le_refl _) _
  have hE4 := hE3.below ((Below.refl _ _).alloc (Nat.le_refl _) (.cells #[.slice A n c, .int .i64 9, .int .u64 x] 25))
  have hF4 := EBox.new (w2.alloc (.cells #[.slice A n c, .int .i64 9, .int .u64 x] 25)) A n c 9 x
  rw [show (w2.alloc (.cells #[.slice A n c, .int .i64 9, .int .u64 x] 25)).heap.size = w2.heap.size + 1 from by simp] at hF4
  have hE5 := hE3.below ((Below.refl _ _).alloc (Nat.le_refl _) (.cells #[.slice none 0 0, .int .i64 9, .int .u64 x] 25))
  have hF5 := EBox.new (w2.alloc (.cells #[.slice A n c, .int .i64 9, .int .u64 x] 25)) none 0 0 9 x
  rw [show (w2.alloc (.cells #[.slice A n c, .int .i64 9, .int .u64 x] 25)).heap.size = w2.heap.size + 1 from by simp] at hF5
  have hb5 := hb3.alloc hb3.size (.cells #[.slice none 0 0, .int .i64 9, .int .u64 x] 25)
  have hR5 := hR2.below hb5
  have hB5 := below_then hB2 hb5
  have hz2 := hB2.size
  have c0 := hE4.c0
  have d0 := hF4.c0
  have f0 := hF4.frozen 0
  have c5 := hE5.c0
  go_wp2
  clear c0 d0 f0 c5 hE3 hb3 hE4 hF4 hb5 hR2
  obtain ⟨g1, hg1⟩ : ∃ g1, g1 = w2.heap.size := ⟨_, rfl⟩
  obtain ⟨g2, hg2⟩ : ∃ g2, g2 = w2.heap.size + 1 := ⟨_, rfl⟩
  rw [← hg2] at hF5 ⊢
  rw [← hg1] at hE5 ⊢
  have hg12 : g2 ≠ g1 := by omega
  have hw1 : w.heap.size ≤ g2 := by omega
  generalize (w2.alloc (.cells #[.slice A n c, .int .i64 9, .int .u64 x] 25)).alloc (.cells #[.slice none 0 0, .int .i64 9, .int .u64 x] 25) = W0 at *
  clear hg1 hg2 hz2
  go_loopw [19] (fun i W => ∃ k : Nat, k ≤ n ∧ (∃ A' n' c', EBox W g2 A' n' c' 9 x ∧ RdT W A' n' c' (l.take k).reverse) ∧ EBox W g1 A n c 9 x ∧ RdT W A n c l ∧ Below w.heap.size w W ∧ i = .int .i64 k) (fun i _ => n - (intOf i).toNat)
  case atStart => exact ⟨0, by omega, ⟨none, 0, 0, hF5, by simpa using RdT.none_ W0⟩, hE5, hR5, hB5, rfl⟩
  case round =>
    clear hF5 hR5 hE5 hB5
    obtain ⟨k, hk, ⟨A', n', c', hF, hY⟩, hE, hR, hb, rfl⟩ := hrel
    have hnY := hY.len
    obtain rfl : n' = k := by have := HLN.out; rw [List.length_reverse, List.length_take] at hnY; omega
    have hz := hb.size
    by_cases hlt : n' < n
    · obtain ⟨b, o, p, q, rfl, hg, hp, hq, hbl, h1, h2⟩ := hR.at_ hlt
      have HN := Lib.hid (rev_next hg)
      have HL2 : Hid ((l.take (n' + 1)).reverse.length = n' + 1) := Lib.hid (by rw [← HN.out]; simp; have := HLN.out; omega)
      have hX1 := Box.new wr p q
      have hb1 : Below wr.heap.size wr (wr.alloc (.cells #[.string p, .string q] 35)) := (Below.refl _ _).alloc (Nat.le_refl _) _
      have x0 := hX1.c0
      have x1 := hX1.c1
      have hF1 := hF.below hb1
      have hO1 := lit_tag (wr.alloc (.cells #[.string p, .string q] 35)) (p, q) ⟨hp, hq⟩ (base := (wr.alloc (.cells #[.string p, .string q] 35)).heap.size) (Nat.le_refl _)
      have hF2 := hF1.below ((Below.refl _ _).alloc (Nat.le_refl _) (.cells #[.string p, .string q] 35))
      have hY2 := (hY.below hb1).alloc (.cells #[.string p, .string q] 35)
      have y0 := hF2.c0
      have hb2 : Below (wr.alloc (.cells #[.string p, .string q] 35)).heap.size (wr.alloc (.cells #[.string p, .string q] 35)) ((wr.alloc (.cells #[.string p, .string q] 35)).alloc (.cells #[.string p, .string q] 35)) := (Below.refl _ _).alloc (Nat.le_refl _) _
      have hsz : (wr.alloc (.cells #[.string p, .string q] 35)).heap.size = wr.heap.size + 1 := by simp
      rw [hsz] at hO1 hb2
      have HSZ := Lib.hid hsz
      have hby : [(p, q)].length + n' ≤ 1000000 := by simp; omega
      have hba : wr.heap.size + 1 ≤ ((wr.alloc (.cells #[.string p, .string q] 35)).alloc (.cells #[.string p, .string q] 35)).heap.size := by simp
      have hE1 := hE.below hb1
      have hR1 := hR.below hb1
      have hB1 := below_then hb hb1
      clear hg hE hR hF hY hb1 hsz
      go_wp2_with (at_builtin; refine wpList_appT rfl (.tmp 24) (.tmp 26) rfl (wr.heap.size + 1) _ _ rfl A' n' c' (l.take n').reverse rfl hO1 hY2 hby hba ?_)
      · intro v' w' hO' hg' _
        have hb3 := Below.appT hb2 hO1 hg' (by simp) (Nat.le_refl _)
        rw [← HSZ.out] at hb3
        rw [HN.out] at hO'
        obtain ⟨A6, c6, rfl, hr6, hf6⟩ := hO'.formN HL2.out
        have hF3 := hF1.below hb3
        have hE3 := hE1.below hb3
        have hR3 := hR1.below hb3
        have hB3 := below_then hB1 hb3
        have f3 := hF3.frozen 0
        have y3 := hF3.c0
        have hF4 := hF3.put0 A6 (n' + 1) c6
        have hE4 := hE3.off hg12 0 (.slice A6 (n' + 1) c6)
        have hR4 := hR3.off hF3 0 (.slice A6 (n' + 1) c6)
        have hY4 := hr6.off hF3 0 (.slice A6 (n' + 1) c6)
        have hB4 := hB3.setCell (p := ⟨g2, 0, none⟩) hw1 (.slice A6 (n' + 1) c6)
        clear hO' hg' hb3 hF3 hE3 hR3 hB3 hr6 hf6 hF1 hF2 hO1 hY2 hb2 hE1 hR1 hB1
        go_wp2
        go_roundw
        case rel => exact ⟨n' + 1, by omega, ⟨A6, n' + 1, c6, hF4, hY4⟩, hE4, hR4, hB4, by go_num⟩
        case measure => (simp [intOf] <;> omega)
    · have hrev : (l.take n') = l := List.take_of_length_le (by have := HLN.out; omega)
      rw [hrev] at hY
      have HP := Lib.hid (it_perm (List.reverse_perm l).symm HO.out 9 x)
      have c0 := hE.c0
      have c1 := hE.c1
      have c2 := hE.c2
      clear hrev
      go_wp2_with fail
      refine (item_any _ _ _ l _ _ _ hR (by omega)).mono ?_
      rintro e w6 ⟨rfl, hb6⟩
      obtain ⟨s, p, q, hv⟩ := itV_form l 9 x
      rw [hv]
      have hF6 := hF.below hb6
      have hY6 := hY.below hb6
      have hB6 := below_then hb hb6
      have hI := IBox.new w6 s p q
      have hbI : Below w6.heap.size w6 (w6.alloc (.cells #[.string s, .int .i64 p, .int .u64 q] 49)) := (Below.refl _ _).alloc (Nat.le_refl _) _
      have hF7 := hF6.below hbI
      have hY7 := hY6.below hbI
      have hB7 := below_then hB6 hbI
      clear c0 c1 c2 hF hY hb6 hF6 hY6 hB6 hbI hE hR hb
      have c0 := hF7.c0
      have c1 := hF7.c1
      have c2 := hF7.c2
      go_wp2_with fail
      refine (item_any _ _ _ l.reverse _ _ _ hY7 (by omega)).mono ?_
      rintro e w7 ⟨rfl, hb7⟩
      rw [HP.out.2, HP.out.1, hv]
      have hI7 := hI.below hb7
      have hB8 := below_then hB7 hb7
      have hJ := IBox.new w7 s p q
      have hbJ : Below w7.heap.size w7 (w7.alloc (.cells #[.string s, .int .i64 p, .int .u64 q] 49)) := (Below.refl _ _).alloc (Nat.le_refl _) _
      have hI8 := hI7.below hbJ
      have hB9 := below_then hB8 hbJ
      have i0 := hI8.c0
      have i1 := hI8.c1
      have i2 := hI8.c2
      have j0 := hJ.c0
      have j1 := hJ.c1
      have j2 := hJ.c2
      have hQ := eqIn_item s p q
      generalize itE l 9 x = ze at *
      clear c0 c1 c2 hI hI7 hI8 hJ hB7 hB8 hb7 hbJ hF7 hY7 hv
      go_wp2_with fail
      refine (awake_any _).mono ?_
      rintro e w8 ⟨rfl, hb8⟩
      have hB10 := below_then hB9 hb8
      go_wp2
      go_ret
      exact ⟨rfl, hB10⟩
end Go.Proofs.Ytbbmjmelbhdgeaa
