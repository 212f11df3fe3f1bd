/- event.Decode: the event at the beginning of bytes, or the error. Conditions: none beyond those typed. -/
import Derived.Test.YtoaijnpkenflbaaEread
namespace Go.Proofs.Ytoaijnpkenflbaa
open Go.ChangeShapes Go.WideShapes Go.ChangeAt Go.RowKit
set_option linter.unusedVariables false
set_option linter.unusedSimpArgs false
set_option maxRecDepth 100000

theorem txtV_size (l : List Int) : (txtV l).size ≤ 4096 := by
  unfold txtV
  split
  · rename_i h
    rw [bS_size, List.length_take]
    have h0 : numE 4096 4 l = 0 := by
      unfold txtE at h
      split at h
      · rename_i hh; exact absurd h hh
      · rename_i hh; simpa using hh
    have := (numE_zero h0 (by decide)).2.1
    omega
  · show (0 : Nat) ≤ 4096; omega
def tgsT (k : Nat) (l : List Int) : List Tg := if tgsE k l = 0 then tgsV k l else []
/-- What reading tags leaves. -/
def TgsOut (k g b : Nat) (l : List Int) (w : World) (e : Ending) (w' : World) : Prop :=
  ∃ A n c, e = .returned (.tuple #[.slice A n c, .int .i64 (tgsE k l)]) ∧ RdT w' A n c (tgsT k l) ∧ w.grownBy w' (some g) ∧ (tgsE k l = 0 → RdrB w' g b (tgsR k l))
theorem TgsOut.err {k g b : Nat} {z : Int} {l : List Int} {w w' : World} (h : tgsE k l = z) (hz : z ≠ 0) (hg : w.grownBy w' (some g)) : TgsOut k g b l w (.returned (.tuple #[.slice none 0 0, .int .i64 z])) w' := by
  subst h
  exact ⟨none, 0, 0, rfl, by unfold tgsT; rw [if_neg hz]; exact RdT.none_ _, hg, fun e => absurd e hz⟩
theorem TgsOut.ok {k g b n c : Nat} {A : Option Addr} {l : List Int} {w w' : World} (h : tgsE k l = 0) (hr : RdT w' A n c (tgsV k l)) (hg : w.grownBy w' (some g)) (hR : RdrB w' g b (tgsR k l)) : TgsOut k g b l w (.returned (.tuple #[.slice A n c, .int .i64 0])) w' :=
  ⟨A, n, c, by rw [h], by unfold tgsT; rw [if_pos h]; exact hr, hg, fun _ => hR⟩
/-- What the loop keeps: j tags are read. -/
def TgsK (k : Nat) (l : List Int) (j : Nat) (acc : List Tg) (r : List Int) : Prop := acc.length = j ∧ tgsE k l = tgsE (k - j) r ∧ tgsV k l = acc ++ tgsV (k - j) r ∧ tgsR k l = tgsR (k - j) r
theorem TgsK.zero (k : Nat) (l : List Int) : TgsK k l 0 [] l := ⟨rfl, rfl, by simp, rfl⟩
theorem TgsK.e1 {k j : Nat} {l r : List Int} {acc : List Tg} (h : TgsK k l j acc r) (hj : j < k) (h1 : txtE r ≠ 0) : tgsE k l = txtE r := by
  obtain ⟨m, hm⟩ : ∃ m, k - j = m + 1 := ⟨k - j - 1, by omega⟩
  rw [h.2.1, hm, tgsE, if_pos h1]
theorem TgsK.e2 {k j : Nat} {l r : List Int} {acc : List Tg} (h : TgsK k l j acc r) (hj : j < k) (h0 : txtE r = 0) (h1 : txtE (txtR r) ≠ 0) : tgsE k l = txtE (txtR r) := by
  obtain ⟨m, hm⟩ : ∃ m, k - j = m + 1 := ⟨k - j - 1, by omega⟩
  rw [h.2.1, hm, tgsE, if_neg (by simp [h0]), if_pos h1]
theorem TgsK.next {k j : Nat} {l r : List Int} {acc : List Tg} (h : TgsK k l j acc r) (hj : j < k) (h0 : txtE r = 0) (h1 : txtE (txtR r) = 0) : TgsK k l (j + 1) (acc ++ [(txtV r, txtV (txtR r))]) (txtR (txtR r)) := by
  obtain ⟨m, hm⟩ : ∃ m, k - j = m + 1 := ⟨k - j - 1, by omega⟩
  have hm' : k - (j + 1) = m := by omega
  obtain ⟨a, b, c, d⟩ := h
  rw [hm] at b c d
  refine ⟨by simp [a], ?_, ?_, ?_⟩
  · rw [hm', b, tgsE, if_neg (by simp [h0]), if_neg (by simp [h1])]
  · rw [hm', c, tgsV]; simp
  · rw [hm', d, tgsR]
theorem TgsK.end_ {k : Nat} {l r : List Int} {acc : List Tg} (h : TgsK k l k acc r) : tgsE k l = 0 ∧ tgsV k l = acc ∧ tgsR k l = r := by
  obtain ⟨a, b, c, d⟩ := h
  rw [Nat.sub_self] at b c d
  exact ⟨b, by rw [c]; simp [tgsV], d⟩
theorem RdrB.lt {w : World} {g b : Nat} {l : List Int} (h : RdrB w g b l) : g < w.heap.size := by
  obtain ⟨o, n, c, hh, _⟩ := h
  rcases Nat.lt_or_ge g w.heap.size with h | h
  · exact h
  · rw [Array.getElem?_eq_none h] at hh; cases hh

set_option maxHeartbeats 1000000 in
theorem readTags_any (k g b : Nat) (l : List Int) (w : World) (hR : RdrB w g b l) (hb : b < w.heap.size) (hk8 : k ≤ 8) :
    Calls Try.prog 67 #[.int .i64 (k : Int), .func (.func 68) #[.pointer (some ⟨g, 0, none⟩)] #[]] w (TgsOut k g b l w) := by
  have hgl := hR.lt
  go_enter Try.func67, Try.ntmps67
  go_wp2
  go_loopw [6, 11] (fun v i W => ∃ (j : Nat) (acc : List Tg) (r : List Int), j ≤ k ∧ TgsK k l j acc r ∧ OwnT W w.heap.size v acc ∧ RdrB W g b r ∧ w.grownBy W (some g) ∧ i = .int .i64 j) (fun _ i _ => k - (intOf i).toNat)
  case atStart => exact ⟨0, [], l, by omega, TgsK.zero k l, OwnT.none_ _ _, hR, World.grownBy.refl _ _, rfl⟩
  case round =>
    clear hR
    obtain ⟨j, acc, r, hj, hK, hO, hR, hG, rfl⟩ := hrel
    have hz := hG.size
    by_cases hlt : j < k
    · by_cases h1 : txtE r = 0
      · by_cases h2 : txtE (txtR r) = 0
        · have H1 := Lib.hid h1
          have H2 := Lib.hid h2
          have HN := Lib.hid (hK.next hlt h1 h2)
          have hacc := hK.1
          clear h1 h2 hK
          go_wp2_with fail
          refine (text_any g b r _ hR).mono ?_
          rintro e w1 ⟨rfl, hg1, hr1⟩
          have hR1 := hr1 H1.out
          have hO1 := hO.grown hg1 (fun k hk => by injection hk; omega)
          have hG1 := hG.trans hg1
          rw [H1.out]
          clear hr1 hR hO hG hg1
          go_wp2_with fail
          refine (text_any g b _ _ hR1).mono ?_
          rintro e w2 ⟨rfl, hg2, hr2⟩
          have hR2 := hr2 H2.out
          have hO2 := hO1.grown hg2 (fun k hk => by injection hk; omega)
          have hG2 := hG1.trans hg2
          have hz2 := hG2.size
          rw [H2.out]
          clear hr2 hR1 hO1 hG1 hg2
          have s1 : (txtV r).size ≤ 140737488355328 ∧ (txtV (txtR r)).size ≤ 140737488355328 := ⟨Nat.le_trans (txtV_size _) (by decide), Nat.le_trans (txtV_size _) (by decide)⟩
          generalize txtV r = p at *
          generalize txtV (txtR r) = q at *
          have hT := RdT.one' (w := w2) rfl s1
          have hO3 := hO2.alloc (.cells #[.string p, .string q] 33)
          have hG3 := hG2.trans (World.grownBy_alloc w2 (.cells #[.string p, .string q] 33) _)
          have hR3 := hR2.below ((Below.refl _ _).alloc (Nat.le_refl _) (.cells #[.string p, .string q] 33))
          have hby : acc.length + 1 ≤ 1000000 := by omega
          have hba : w.heap.size ≤ (w2.alloc (.cells #[.string p, .string q] 33)).heap.size := by simp; omega
          have hlt3 := hO3.lt
          clear hO2 hG2 hR2
          go_wp2_with (at_builtin; refine wpList_appT rfl (.tmp 29) (.tmp 33) rfl w.heap.size _ acc rfl _ 1 1 [(p, q)] rfl hO3 hT hby hba ?_)
          · intro v' w' hO' hg' _
            have hR4 := hR3.far hg' (fun e => by have := (hlt3 _ e).1; omega) (fun e => by have := (hlt3 _ e).1; omega)
            have hG4 := grown_on hG3 hg' (fun k hk => (hlt3 k hk).1)
            clear hg' hG3 hR3 hO3 hlt3 hT
            go_wp2
            go_roundw
            case rel => exact ⟨j + 1, _, _, by omega, HN.out, hO', hR4, hG4, by go_num⟩
            case measure => (simp [intOf] <;> omega)
        · have H1 := Lib.hid h1
          have H2 := Lib.hid h2
          have HE := Lib.hid (hK.e2 hlt h1 h2)
          have hv1 : (txtE (txtR r) == 0) = false := beq_false_of_ne h2
          have hv2 : (txtE (txtR r) != 0) = true := bne_iff_ne.2 h2
          clear h1 h2 hK hO
          go_wp2_with fail
          refine (text_any g b r _ hR).mono ?_
          rintro e w1 ⟨rfl, hg1, hr1⟩
          have hR1 := hr1 H1.out
          have hG1 := hG.trans hg1
          rw [H1.out]
          clear hr1 hR hG hg1
          go_wp2_with fail
          refine (text_any g b _ _ hR1).mono ?_
          rintro e w2 ⟨rfl, hg2, -⟩
          have hG2 := hG1.trans hg2
          go_wp2
          go_ret2
          exact TgsOut.err HE.out H2.out hG2
      · have H1 := Lib.hid h1
        have HE := Lib.hid (hK.e1 hlt h1)
        have hv1 : (txtE r == 0) = false := beq_false_of_ne h1
        have hv2 : (txtE r != 0) = true := bne_iff_ne.2 h1
        clear h1 hK hO
        go_wp2_with fail
        refine (text_any g b r _ hR).mono ?_
        rintro e w1 ⟨rfl, hg1, -⟩
        have hG1 := hG.trans hg1
        go_wp2
        go_ret2
        exact TgsOut.err HE.out H1.out hG1
    · obtain rfl : j = k := by omega
      obtain ⟨e1, e2, e3⟩ := hK.end_
      have E1 := Lib.hid e1
      rw [← e2] at hO
      rw [← e3] at hR
      clear e1 e2 e3 hK
      obtain ⟨A, c, rfl, hr, _⟩ := hO.form
      have HRT := Lib.hid hr
      clear hr hO
      go_wp2
      go_ret2
      exact TgsOut.ok E1.out HRT.out hG hR

theorem Rdr.bytes {w : World} {g : Nat} {l : List Int} (h : Rdr w g l) : ∀ z ∈ l, 0 ≤ z ∧ z ≤ 255 := by
  obtain ⟨_, _, _, _, hR⟩ := h
  exact hR.bytes
/-- Tags do not lie in an event's box. -/
theorem RdT.off3 {W : World} {A : Option Addr} {n c : Nat} {l : List Tg} {g : Nat} {A' : Option Addr} {n' c' : Nat} {t x : Int} (h : RdT W A n c l) (hE : EBox W g A' n' c' t x) (v0 v1 v2 : Value) :
    RdT (((W.setCell ⟨g, 0, none⟩ v0).setCell ⟨g, 1, none⟩ v1).setCell ⟨g, 2, none⟩ v2) A n c l := by
  refine ⟨h.1, h.2.1, h.2.2.1, h.2.2.2.1, fun j y hy => ?_⟩
  obtain ⟨b, o, hA, c0, c1⟩ := h.2.2.2.2 j y hy
  have hne : b ≠ g := by
    rintro rfl
    have hh : W.heap[b]? = _ := hE
    rw [cell_of_row W b (o + j * 2) _ _ (0, 0) hh] at c0
    generalize o + j * 2 = q at c0
    match q, c0 with
    | 0, c0 => simp at c0
    | 1, c0 => simp at c0
    | 2, c0 => simp at c0
    | q + 3, c0 => simp at c0
  refine ⟨b, o, hA, ?_, ?_⟩
  · rw [World.cell?_setCell_other _ _ _ _ (by simp [hne]), World.cell?_setCell_other _ _ _ _ (by simp [hne]), World.cell?_setCell_other _ _ _ _ (by simp [hne])]; exact c0
  · rw [World.cell?_setCell_other _ _ _ _ (by simp [hne]), World.cell?_setCell_other _ _ _ _ (by simp [hne]), World.cell?_setCell_other _ _ _ _ (by simp [hne])]; exact c1
theorem RdrB.off3 {W : World} {g b g2 : Nat} {l : List Int} {A' : Option Addr} {n' c' : Nat} {t x : Int} (h : RdrB W g b l) (hE : EBox W g2 A' n' c' t x) (hg : g ≠ g2) (v0 v1 v2 : Value) :
    RdrB (((W.setCell ⟨g2, 0, none⟩ v0).setCell ⟨g2, 1, none⟩ v1).setCell ⟨g2, 2, none⟩ v2) g b l := by
  obtain ⟨o, n, c, hh, hR⟩ := h
  refine ⟨o, n, c, ?_, hR.1, hR.2.1, hR.2.2.1, hR.2.2.2.1, fun j y hy => ?_⟩
  · have e : ∀ (w : World) i v, (w.setCell ⟨g2, i, none⟩ v).heap[g]? = w.heap[g]? := fun w i v => by simp [World.setCell, Array.getElem?_modify, hg.symm]
    rw [e, e, e]; exact hh
  obtain ⟨b', o', hA, c0⟩ := hR.2.2.2.2 j y hy
  have hne : b' ≠ g2 := by
    rintro rfl
    have hh : W.heap[b']? = _ := hE
    rw [cell_of_row W b' (o' + j) _ _ (0, 0) hh] at c0
    generalize o' + j = q at c0
    match q, c0 with
    | 0, c0 => simp at c0
    | 1, c0 => simp at c0
    | 2, c0 => simp at c0
    | q + 3, c0 => simp at c0
  refine ⟨b', o', hA, ?_⟩
  rw [World.cell?_setCell_other _ _ _ _ (by simp [hne]), World.cell?_setCell_other _ _ _ _ (by simp [hne]), World.cell?_setCell_other _ _ _ _ (by simp [hne])]; exact c0
theorem dec_bad {l : List Int} {z : Int} (h : decE l = z) (hz : z ≠ 0) : decT l = [] ∧ decM l = 0 ∧ decW l = 0 ∧ decN l = 0 := by
  subst h
  exact ⟨if_neg hz, if_neg hz, if_neg hz, if_neg hz⟩
theorem dec_e1 {l : List Int} (h : numE 1099511627776 1 l ≠ 0) : decE l = numE 1099511627776 1 l := if_pos h
theorem dec_e2 {l : List Int} (h1 : numE 1099511627776 1 l = 0) (h : numE 18446744073709551615 1 (numR l) ≠ 0) : decE l = numE 18446744073709551615 1 (numR l) := by
  unfold decE evR1; rw [if_neg (by simp [h1]), if_pos h]
theorem dec_e3 {l : List Int} (h1 : numE 1099511627776 1 l = 0) (h2 : numE 18446744073709551615 1 (numR l) = 0) (h : numE 8 5 (numR (numR l)) ≠ 0) : decE l = numE 8 5 (numR (numR l)) := by
  unfold decE evR1 evR2; rw [if_neg (by simp [h1]), if_neg (by simp [h2]), if_pos h]
theorem dec_e4 {l : List Int} (h1 : numE 1099511627776 1 l = 0) (h2 : numE 18446744073709551615 1 (numR l) = 0) (h3 : numE 8 5 (numR (numR l)) = 0) : decE l = tgsE (rdN (numR (numR l))).toNat (numR (numR (numR l))) := by
  unfold decE evR1 evR2 evR3; rw [if_neg (by simp [h1]), if_neg (by simp [h2]), if_neg (by simp [h3])]
theorem dec_ok {l : List Int} (h : decE l = 0) : decT l = tgsV (rdN (numR (numR l))).toNat (numR (numR (numR l))) ∧ decM l = rdN l ∧ decW l = rdN (numR l) ∧ decR l = tgsR (rdN (numR (numR l))).toNat (numR (numR (numR l))) ∧ decN l = (l.length : Int) - (decR l).length :=
  ⟨if_pos h, if_pos h, if_pos h, rfl, if_pos h⟩
/-- What reading an event leaves. -/
def EvOut (g : Nat) (l : List Int) (w : World) (e : Ending) (w' : World) : Prop :=
  ∃ A n c, e = .returned (.tuple #[.agg #[.slice A n c, .int .i64 (decM l), .int .u64 (decW l)], .int .i64 (decE l)]) ∧ RdT w' A n c (decT l) ∧ w.grownBy w' (some g) ∧ (decE l = 0 → ∃ b, RdrB w' g b (decR l))
theorem EvOut.err {g : Nat} {l : List Int} {z : Int} {w w' : World} (h : decE l = z) (hz : z ≠ 0) (hg : w.grownBy w' (some g)) : EvOut g l w (.returned (.tuple #[.agg #[.slice none 0 0, .int .i64 0, .int .u64 0], .int .i64 z])) w' := by
  obtain ⟨h1, h2, h3, _⟩ := dec_bad h hz
  exact ⟨none, 0, 0, by rw [h2, h3, h], by rw [h1]; exact RdT.none_ _, hg, fun e => absurd (h.symm.trans e) hz⟩
theorem EvOut.ok {g b n c : Nat} {A : Option Addr} {l : List Int} {t x : Int} {w w' : World} (h : decE l = 0) (hT : RdT w' A n c (decT l)) (ht : decM l = t) (hx : decW l = x) (hg : w.grownBy w' (some g)) (hR : RdrB w' g b (decR l)) : EvOut g l w (.returned (.tuple #[.agg #[.slice A n c, .int .i64 t, .int .u64 x], .int .i64 0])) w' := by
  subst ht hx
  exact ⟨A, n, c, by rw [h], hT, hg, fun _ => ⟨b, hR⟩⟩

set_option maxHeartbeats 1000000 in
theorem readEvent_any (g : Nat) (l : List Int) (w : World) (hR : Rdr w g l) (hgl : g < w.heap.size) :
    Calls Try.prog 55 #[.pointer (some ⟨g, 0, none⟩)] w (EvOut g l w) := by
  have hE0 := EBox.new w none 0 0 0 0
  have hG0 : w.grownBy (w.alloc (.cells #[.slice none 0 0, .int .i64 0, .int .u64 0] 30)) (some g) := World.grownBy_alloc _ _ _
  have hR0 := hR.below ((Below.refl _ _).alloc (Nat.le_refl _) (.cells #[.slice none 0 0, .int .i64 0, .int .u64 0] 30))
  by_cases h1 : numE 1099511627776 1 l = 0
  rotate_left
  · have H1 := Lib.hid h1
    have HD := Lib.hid (dec_e1 h1)
    have hv1 : (numE 1099511627776 1 l == 0) = false := beq_false_of_ne h1
    have hv2 : (numE 1099511627776 1 l != 0) = true := bne_iff_ne.2 h1
    clear h1
    go_enter Try.func55, Try.ntmps55
    go_wp2_with fail
    refine (number_any g _ _ l _ hR0 (by decide) (by decide)).mono ?_
    rintro e w1 ⟨rfl, hg1, -⟩
    have hE1 := hE0.far (hg1.block _ hE0.lt (by intro e; injection e; omega))
    have hG1 := hG0.trans hg1
    clear hE0 hG0 hR0 hg1
    have f0 := hE1.frozen 0
    have f1 := hE1.frozen 1
    have f2 := hE1.frozen 2
    have e0 := hE1.c0
    have e1 := hE1.c1
    have e2 := hE1.c2
    go_wp2
    refine bodyPost_ret (results_cell_row2 rfl _ _ w.heap.size _ _ (0, 0) _ rfl (hE1.put3 _ _ _ _ _) Try.underlying30 rfl (by kernel_rfl)) rfl ?_
    exact EvOut.err HD.out H1.out (grow_put3 hG1 (.inr (Nat.le_refl _)) _ _ _)
  have H1 := Lib.hid h1
  have V1 := Lib.hid (numE_zero h1 (by decide)).2.2
  by_cases h2 : numE 18446744073709551615 1 (numR l) = 0
  rotate_left
  · have H2 := Lib.hid h2
    have HD := Lib.hid (dec_e2 h1 h2)
    have hv1 : (numE 18446744073709551615 1 (numR l) == 0) = false := beq_false_of_ne h2
    have hv2 : (numE 18446744073709551615 1 (numR l) != 0) = true := bne_iff_ne.2 h2
    clear h1 h2
    go_enter Try.func55, Try.ntmps55
    go_wp2_with fail
    refine (number_any g _ _ l _ hR0 (by decide) (by decide)).mono ?_
    rintro e w1 ⟨rfl, hg1, hr1⟩
    obtain ⟨b, hR1, _, _⟩ := hr1 H1.out
    rw [H1.out, V1.out]
    have hE1 := hE0.far (hg1.block _ hE0.lt (by intro e; injection e; omega))
    have hG1 := hG0.trans hg1
    clear hE0 hG0 hR0 hg1 hr1
    go_wp2_with fail
    refine (number_any g _ _ _ _ hR1.rdr (by decide) (by decide)).mono ?_
    rintro e w2 ⟨rfl, hg2, -⟩
    have hE2 := hE1.far (hg2.block _ hE1.lt (by intro e; injection e; omega))
    have hG2 := hG1.trans hg2
    clear hE1 hG1 hR1 hg2
    have f0 := hE2.frozen 0
    have f1 := hE2.frozen 1
    have f2 := hE2.frozen 2
    have e0 := hE2.c0
    have e1 := hE2.c1
    have e2 := hE2.c2
    go_wp2
    refine bodyPost_ret (results_cell_row2 rfl _ _ w.heap.size _ _ (0, 0) _ rfl (hE2.put3 _ _ _ _ _) Try.underlying30 rfl (by kernel_rfl)) rfl ?_
    exact EvOut.err HD.out H2.out (grow_put3 hG2 (.inr (Nat.le_refl _)) _ _ _)
  have H2 := Lib.hid h2
  have V2 := Lib.hid (numE_zero h2 (by decide)).2.2
  by_cases h3 : numE 8 5 (numR (numR l)) = 0
  rotate_left
  · have H3 := Lib.hid h3
    have HD := Lib.hid (dec_e3 h1 h2 h3)
    have hv1 : (numE 8 5 (numR (numR l)) == 0) = false := beq_false_of_ne h3
    have hv2 : (numE 8 5 (numR (numR l)) != 0) = true := bne_iff_ne.2 h3
    clear h1 h2 h3
    go_enter Try.func55, Try.ntmps55
    go_wp2_with fail
    refine (number_any g _ _ l _ hR0 (by decide) (by decide)).mono ?_
    rintro e w1 ⟨rfl, hg1, hr1⟩
    obtain ⟨b, hR1, _, _⟩ := hr1 H1.out
    rw [H1.out, V1.out]
    have hE1 := hE0.far (hg1.block _ hE0.lt (by intro e; injection e; omega))
    have hG1 := hG0.trans hg1
    clear hE0 hG0 hR0 hg1 hr1
    go_wp2_with fail
    refine (number_any g _ _ _ _ hR1.rdr (by decide) (by decide)).mono ?_
    rintro e w2 ⟨rfl, hg2, hr2⟩
    obtain ⟨b2, hR2, _, _⟩ := hr2 H2.out
    rw [H2.out, V2.out]
    have hE2 := hE1.far (hg2.block _ hE1.lt (by intro e; injection e; omega))
    have hG2 := hG1.trans hg2
    clear hE1 hG1 hR1 hg2 hr2
    go_wp2_with fail
    refine (number_any g _ _ _ _ hR2.rdr (by decide) (by decide)).mono ?_
    rintro e w3 ⟨rfl, hg3, -⟩
    have hE3 := hE2.far (hg3.block _ hE2.lt (by intro e; injection e; omega))
    have hG3 := hG2.trans hg3
    clear hE2 hG2 hR2 hg3
    have f0 := hE3.frozen 0
    have f1 := hE3.frozen 1
    have f2 := hE3.frozen 2
    have e0 := hE3.c0
    have e1 := hE3.c1
    have e2 := hE3.c2
    go_wp2
    refine bodyPost_ret (results_cell_row2 rfl _ _ w.heap.size _ _ (0, 0) _ rfl (hE3.put3 _ _ _ _ _) Try.underlying30 rfl (by kernel_rfl)) rfl ?_
    exact EvOut.err HD.out H3.out (grow_put3 hG3 (.inr (Nat.le_refl _)) _ _ _)
  have H3 := Lib.hid h3
  have V3 := Lib.hid (numE_zero h3 (by decide)).2.2
  have HD := Lib.hid (dec_e4 h1 h2 h3)
  have hb0 := hR.bytes
  have hN1 := rd_top hb0
  have hN2 := rd_top (numR_bytes hb0)
  have hN3 := rd_top (numR_bytes (numR_bytes hb0))
  have hM1 := (numE_zero h1 (by decide)).2.1
  have hM3 := (numE_zero h3 (by decide)).2.1
  obtain ⟨k, hk⟩ := Int.eq_ofNat_of_zero_le hN3.1
  have HK := Lib.hid hk
  have hk8 : k ≤ 8 := by omega
  have HDk : Hid (decE l = tgsE k (numR (numR (numR l)))) := Lib.hid (by rw [HD.out, hk, Int.toNat_natCast])
  clear h1 h2 h3 hb0 hN3 hM3 hk
  go_enter Try.func55, Try.ntmps55
  go_wp2_with fail
  refine (number_any g _ _ l _ hR0 (by decide) (by decide)).mono ?_
  rintro e w1 ⟨rfl, hg1, hr1⟩
  obtain ⟨b, hR1, _, _⟩ := hr1 H1.out
  rw [H1.out, V1.out]
  have hE1 := hE0.far (hg1.block _ hE0.lt (by intro e; injection e; omega))
  have hG1 := hG0.trans hg1
  clear hE0 hG0 hR0 hg1 hr1
  go_wp2_with fail
  refine (number_any g _ _ _ _ hR1.rdr (by decide) (by decide)).mono ?_
  rintro e w2 ⟨rfl, hg2, hr2⟩
  obtain ⟨b2, hR2, _, _⟩ := hr2 H2.out
  rw [H2.out, V2.out]
  have hE2 := hE1.far (hg2.block _ hE1.lt (by intro e; injection e; omega))
  have hG2 := hG1.trans hg2
  clear hE1 hG1 hR1 hg2 hr2
  go_wp2_with fail
  refine (number_any g _ _ _ _ hR2.rdr (by decide) (by decide)).mono ?_
  rintro e w3 ⟨rfl, hg3, hr3⟩
  obtain ⟨b3, hR3, hb3, _⟩ := hr3 H3.out
  rw [H3.out, V3.out, HK.out]
  have hE3 := hE2.far (hg3.block _ hE2.lt (by intro e; injection e; omega))
  have hG3 := hG2.trans hg3
  have hb3' : b3 < w3.heap.size := Nat.lt_of_lt_of_le hb3 hg3.size
  clear hE2 hG2 hR2 hg3 hr3 hb3
  go_wp2_with fail
  refine (readTags_any k g b3 _ _ hR3 hb3' hk8).mono ?_
  rintro e w4 ⟨A, n, c, rfl, hT, hg4, hr4⟩
  have hE4 := hE3.far (hg4.block _ hE3.lt (by intro e; injection e; omega))
  have hG4 := hG3.trans hg4
  clear hE3 hG3 hR3 hg4
  have f0 := hE4.frozen 0
  have f1 := hE4.frozen 1
  have f2 := hE4.frozen 2
  have e0 := hE4.c0
  have e1 := hE4.c1
  have e2 := hE4.c2
  by_cases h4 : tgsE k (numR (numR (numR l))) = 0
  · have hD0 : decE l = 0 := HDk.out.trans h4
    obtain ⟨d1, d2, d3, d4, _⟩ := dec_ok hD0
    rw [HK.out, Int.toNat_natCast] at d1 d4
    have hT4 : RdT w4 A n c (decT l) := by rw [d1]; unfold tgsT at hT; rwa [if_pos h4] at hT
    have hR4 := hr4 h4
    rw [← d4] at hR4
    have hgne : g ≠ w.heap.size := by omega
    have hT5 := hT4.off3 hE4 (.slice A n c) (.int .i64 (rdN l)) (.int .u64 (rdN (numR l)))
    have hR5 := hR4.off3 hE4 hgne (.slice A n c) (.int .i64 (rdN l)) (.int .u64 (rdN (numR l)))
    have HF := Lib.hid (EvOut.ok hD0 hT5 d2 d3 (grow_put3 hG4 (.inr (Nat.le_refl _)) _ _ _) hR5)
    have H4 := Lib.hid h4
    obtain ⟨q1, q2⟩ := hN1
    obtain ⟨q3, q4⟩ := hN2
    rw [H4.out]
    clear hr4 hT hT4 hR4 hT5 hR5 d1 d2 d3 d4 h4 hD0 hG4
    go_wp2
    refine bodyPost_ret (results_cell_row2 rfl _ _ w.heap.size _ _ (0, 0) _ rfl (hE4.put3 _ _ _ _ _) Try.underlying30 rfl (by kernel_rfl)) rfl ?_
    exact HF.out
  · have HX := Lib.hid (HDk.out)
    have H4 := Lib.hid h4
    have hv1 : (tgsE k (numR (numR (numR l))) == 0) = false := beq_false_of_ne h4
    have hv2 : (tgsE k (numR (numR (numR l))) != 0) = true := bne_iff_ne.2 h4
    clear hr4 hT h4
    go_wp2
    refine bodyPost_ret (results_cell_row2 rfl _ _ w.heap.size _ _ (0, 0) _ rfl (hE4.put3 _ _ _ _ _) Try.underlying30 rfl (by kernel_rfl)) rfl ?_
    exact EvOut.err HX.out H4.out (grow_put3 hG4 (.inr (Nat.le_refl _)) _ _ _)

theorem decT_len (l : List Int) (hb : ∀ z ∈ l, 0 ≤ z ∧ z ≤ 255) : (decT l).length ≤ 8 := by
  by_cases h : decE l = 0
  · have hd := (dec_ok h).1
    rw [hd, tgsV_len]
    unfold decE evR1 evR2 at h
    split at h
    · contradiction
    · split at h
      · contradiction
      · split at h
        · contradiction
        · rename_i h3
          have h3' : numE 8 5 (numR (numR l)) = 0 := by simpa using h3
          have := (numE_zero h3' (by decide)).2.1
          omega
  · rw [(dec_bad rfl h).1]; simp
theorem numR_len (l : List Int) : (numR l).length ≤ l.length := by unfold numR; rw [List.length_drop]; omega
theorem txtR_len (l : List Int) : (txtR l).length ≤ l.length := by have := numR_len l; unfold txtR; rw [List.length_drop]; omega
theorem tgsR_len : ∀ (k : Nat) (l : List Int), (tgsR k l).length ≤ l.length
  | 0, l => Nat.le_refl _
  | k + 1, l => by
    have h1 := tgsR_len k (txtR (txtR l))
    have h2 := txtR_len (txtR l)
    have h3 := txtR_len l
    rw [tgsR]; omega
theorem decR_len (l : List Int) : (decR l).length ≤ l.length := by
  have h1 := tgsR_len (rdN (evR2 l)).toNat (evR3 l)
  have h2 := numR_len (numR (numR l))
  have h3 := numR_len (numR l)
  have h4 := numR_len l
  unfold decR
  have h5 : evR3 l = numR (numR (numR l)) := rfl
  rw [h5] at h1 ⊢
  omega
/-- What decoding an event gives back. -/
def DecOut (l : List Int) (w : World) (e : Ending) (w' : World) : Prop :=
  ∃ A n c, e = .returned (.tuple #[.agg #[.slice A n c, .int .i64 (decM l), .int .u64 (decW l)], .int .i64 (decN l), .int .i64 (decE l)]) ∧ RdT w' A n c (decT l) ∧ Below w.heap.size w w'
theorem DecOut.err {l : List Int} {z : Int} {w w' : World} (h : decE l = z) (hz : z ≠ 0) (hb : Below w.heap.size w w') : DecOut l w (.returned (.tuple #[.agg #[.slice none 0 0, .int .i64 0, .int .u64 0], .int .i64 0, .int .i64 z])) w' := by
  obtain ⟨h1, h2, h3, h4⟩ := dec_bad h hz
  exact ⟨none, 0, 0, by rw [h2, h3, h4, h], by rw [h1]; exact RdT.none_ _, hb⟩
theorem DecOut.ok {l : List Int} {A : Option Addr} {n c : Nat} {t x u : Int} {w w' : World} (h : decE l = 0) (ht : decM l = t) (hx : decW l = x) (hu : decN l = u) (hT : RdT w' A n c (decT l)) (hb : Below w.heap.size w w') : DecOut l w (.returned (.tuple #[.agg #[.slice A n c, .int .i64 t, .int .u64 x], .int .i64 u, .int .i64 0])) w' := by
  subst ht hx hu
  exact ⟨A, n, c, by rw [h], hT, hb⟩

theorem DecOut.drew {l : List Int} {w w' : World} {e : Ending} (h : DecOut l w e w') : DecOut l w e w'.drew := by
  obtain ⟨A, n, c, h1, h2, h3⟩ := h
  exact ⟨A, n, c, h1, h2, h3.drew⟩
set_option maxHeartbeats 1000000 in
theorem decode_any (A : Option Addr) (n c : Nat) (l : List Int) (w : World) (hR : Rd w A n c l) :
    Calls Try.prog 47 #[.slice A n c] w (DecOut l w) := by
  have hln := Lib.hid hR.len
  have hmax := hR.max
  have hcap := hR.cap
  have hE0 := EBox.new w none 0 0 0 0
  have hb0 : Below w.heap.size w (w.alloc (.cells #[.slice none 0 0, .int .i64 0, .int .u64 0] 30)) := (Below.refl _ _).alloc (Nat.le_refl _) _
  have hb1 := hb0.alloc hb0.size (.cells #[.slice A n c] 93)
  have hE1 := hE0.below ((Below.refl _ _).alloc (Nat.le_refl _) (.cells #[.slice A n c] 93))
  have hR1 : Rdr ((w.alloc (.cells #[.slice none 0 0, .int .i64 0, .int .u64 0] 30)).alloc (.cells #[.slice A n c] 93)) (w.heap.size + 1) l := by
    refine ⟨A, n, c, ?_, hR.below hb1⟩
    have := heap_alloc_new (w.alloc (.cells #[.slice none 0 0, .int .i64 0, .int .u64 0] 30)) (.cells #[.slice A n c] 93)
    rwa [show (w.alloc (.cells #[.slice none 0 0, .int .i64 0, .int .u64 0] 30)).heap.size = w.heap.size + 1 from by simp] at this
  go_enter Try.func47, Try.ntmps47
  go_wp2_with fail
  refine (readEvent_any _ l _ hR1 (by simp)).mono ?_
  rintro e w2 ⟨A2, n2, c2, rfl, hT2, hg2, hr2⟩
  have hE2 := hE1.far (hg2.block _ hE1.lt (by intro e; injection e; omega))
  have hB2 : Below w.heap.size w w2 := hb1.grown hg2 hb1.size (fun k hk => by injection hk; omega)
  have hz2 : w.heap.size + 1 < w2.heap.size := Nat.lt_of_lt_of_le (by simp) hg2.size
  clear hE0 hb0 hb1 hE1 hR1 hg2
  have hE3 := hE2.below ((Below.refl _ _).alloc (Nat.le_refl _) (.cells #[.slice A2 n2 c2, .int .i64 (decM l), .int .u64 (decW l)] 30))
  have hX3 := EBox.new w2 A2 n2 c2 (decM l) (decW l)
  have hB3 := hB2.alloc hB2.size (.cells #[.slice A2 n2 c2, .int .i64 (decM l), .int .u64 (decW l)] 30)
  have hT3 := hT2.alloc (.cells #[.slice A2 n2 c2, .int .i64 (decM l), .int .u64 (decW l)] 30)
  have f0 := hE3.frozen 0
  have f1 := hE3.frozen 1
  have f2 := hE3.frozen 2
  have e0 := hE3.c0
  have e1 := hE3.c1
  have e2 := hE3.c2
  have x0 := hX3.c0
  have x1 := hX3.c1
  have x2 := hX3.c2
  by_cases h0 : decE l = 0
  · obtain ⟨b, hRb⟩ := hr2 h0
    have hRc := hRb.below ((Below.refl _ _).alloc (Nat.le_refl _) (.cells #[.slice A2 n2 c2, .int .i64 (decM l), .int .u64 (decW l)] 30))
    obtain ⟨o, m, d, hh, hRd⟩ := hRc
    have y0 : (w2.alloc (.cells #[.slice A2 n2 c2, .int .i64 (decM l), .int .u64 (decW l)] 30)).cell? ⟨w.heap.size + 1, 0, none⟩ = some (.slice (some ⟨b, o, none⟩) m d) := by rw [Lib.cell_of_heap hh]; rfl
    have hm1 := hRd.cap
    have hm2 := hRd.max
    have hu : decN l = (n : Int) - (m : Int) := by rw [(dec_ok h0).2.2.2.2, hln.out, hRd.len]
    have HU := Lib.hid hu
    have hmn : (m : Int) ≤ (n : Int) := by have h1 := decR_len l; rw [hln.out, hRd.len] at h1; omega
    have H0 := Lib.hid h0
    rw [H0.out]
    clear hr2 hRb hRd hh hu h0
    go_wp2_with fail
    generalize hq : w2.heap.size = q at *
    generalize hw3 : w2.alloc (.cells #[.slice A2 n2 c2, .int .i64 (decM l), .int .u64 (decW l)] 30) = w3 at *
    have HF := Lib.hid (DecOut.ok H0.out rfl rfl HU.out (hT3.off3 hE3 (.slice A2 n2 c2) (.int .i64 (decM l)) (.int .u64 (decW l))) (below_put3 hB3 (Nat.le_refl _) (.slice A2 n2 c2) (.int .i64 (decM l)) (.int .u64 (decW l))))
    have HP := Lib.hid (hE3.put3 A2 n2 c2 (decM l) (decW l))
    go_region
    go_wp2
    refine bodyPost_ret (results_cell_row3 rfl _ _ w.heap.size _ _ (0, 0) _ rfl HP.out Try.underlying30 rfl (by kernel_rfl)) rfl ?_
    exact HF.out.drew
  · have H0 := Lib.hid h0
    have hv1 : (decE l == 0) = false := beq_false_of_ne h0
    have hv2 : (decE l != 0) = true := bne_iff_ne.2 h0
    clear hr2 h0 hT3 hT2
    go_wp2
    refine bodyPost_ret (results_cell_row3 rfl _ _ w.heap.size _ _ (0, 0) _ rfl (hE3.put3 _ _ _ _ _) Try.underlying30 rfl (by kernel_rfl)) rfl ?_
    exact DecOut.err rfl H0.out (below_put3 hB3 (Nat.le_refl _) _ _ _)
end Go.Proofs.Ytoaijnpkenflbaa
