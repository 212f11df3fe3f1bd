/- slices.SortStableFunc over lines: a row of lines is put into its stable order. Conditions: none beyond those typed. -/
import Derived.Test.YtbdafhephmoedaaLnsym3
namespace Go.Proofs.Ytbdafhephmoedaa
open Go.ChangeShapes Go.WideShapes Go.ChangeAt Go.RowKit
set_option linter.unusedVariables false
set_option linter.unusedSimpArgs false
set_option maxRecDepth 100000

/-- Sorted runs of t lines each, the last one of at most as many. -/
inductive BkL (t : Nat) : List En → Prop
  | nil : BkL t []
  | cons (U R : List En) : SrtL U → U.length ≤ t → (R = [] ∨ U.length = t) → BkL t R → BkL t (U ++ R)
/-- Whole sorted runs of t lines each. -/
def PreL (t : Nat) (S : List En) : Prop := ∀ Z, BkL t Z → BkL t (S ++ Z)
section
variable {t : Nat} {S X R : List En}
theorem PreL.nil : PreL t [] := fun Z h => h
theorem PreL.snoc (h : PreL t S) (hX : SrtL X) (hl : X.length = t) : PreL t (S ++ X) := fun Z hZ => by
  rw [List.append_assoc]
  exact h _ (BkL.cons X Z hX (Nat.le_of_eq hl) (.inr hl) hZ)
theorem BkL.one' (hX : SrtL X) (hl : X.length ≤ t) : BkL t X := by
  have := BkL.cons X [] hX hl (.inl rfl) BkL.nil
  rwa [List.append_nil] at this
theorem BkL.take (h : BkL t R) (ht : 0 < t) (hl : t ≤ R.length) : ∃ U R', R = U ++ R' ∧ U.length = t ∧ SrtL U ∧ BkL t R' := by
  cases h with
  | nil => simp at hl; omega
  | cons U R' h1 h2 h3 h4 =>
    refine ⟨U, R', rfl, ?_, h1, h4⟩
    rcases h3 with rfl | h3
    · simp at hl; omega
    · exact h3
theorem BkL.all (h : BkL t R) (hl : R.length ≤ t) : SrtL R := by
  cases h with
  | nil => exact List.Pairwise.nil
  | cons U R' h1 h2 h3 h4 =>
    rcases h3 with rfl | h3
    · rwa [List.append_nil]
    · rw [List.length_append] at hl
      rw [List.eq_nil_of_length_eq_zero (show R'.length = 0 by omega), List.append_nil]
      exact h1
end
/-- The row is put into its order. -/
def StO (w : World) (g n c : Nat) (L : List En) (w' : World) : Prop := ∃ L', MgL L L' ∧ RwL w g n c L' w'
/-- Whole runs in front, and what is still to be done. -/
structure FrL (w : World) (g n c t a : Nat) (L S R : List En) (W : World) : Prop where
  la : S.length = a
  pre : PreL t S
  sm : SmL L (S ++ R)
  row : RwL w g n c (S ++ R) W
theorem FrL.tot {w W : World} {g n c t a : Nat} {L S R : List En} (h : FrL w g n c t a L S R W) : a + R.length = n := by
  have := h.row.len
  rw [List.length_append, h.la] at this
  exact this
/-- A merged run comes to those in front. -/
theorem FrL.next {w W W' : World} {g n c t a : Nat} {L S R X X' R' : List En} (h : FrL w g n c t a L S R W) (hR : R = X ++ R') (hX : MgL X X') (hl : X.length = t) (hW : RwL W g n c (S ++ X' ++ R') W') : FrL w g n c t (a + t) L (S ++ X') R' W' := by
  refine ⟨by rw [List.length_append, h.la, hX.sm.len, hl], h.pre.snoc hX.srt (hX.sm.len.trans hl), ?_, h.row.then_ hW⟩
  refine h.sm.trans ?_
  rw [hR, ← List.append_assoc]
  exact ((SmL.refl S).app hX.sm).app (SmL.refl _)
theorem FrL.last {w W W' : World} {g n c t a : Nat} {L S R X' : List En} (h : FrL w g n c t a L S R W) (hX : MgL R X') (hl : R.length ≤ t) (hW : RwL W g n c (S ++ X') W') : SmL L (S ++ X') ∧ BkL t (S ++ X') ∧ RwL w g n c (S ++ X') W' :=
  ⟨h.sm.trans ((SmL.refl S).app hX.sm), h.pre _ (BkL.one' hX.srt (by rw [hX.sm.len]; exact hl)), h.row.then_ hW⟩
set_option maxHeartbeats 8000000 in
theorem stableL_any {w : World} {g n c : Nat} {L : List En} (hO : OwnK kLn w (.slice (some ⟨g, 0, none⟩) n c) L) (hn : n ≤ 1000000) :
    Calls Try.prog 33 #[.slice (some ⟨g, 0, none⟩) n c, .int .i64 (n : Int), .func (.func 29) #[] #[]] w
      fun e w' => e = .returned (.tuple #[]) ∧ StO w g n c L w' := by
  have H0 := Lib.hid (show FrL w g n c 20 0 L [] L w from ⟨rfl, PreL.nil, SmL.refl _, RwL.start hO⟩)
  clear hO
  go_enter Try.func33, Try.ntmps33
  go_wp2
  go_loopw [7, 8] (fun av bv wr => ∃ (a b : Nat) (S R : List En), a + 20 = b ∧ av = .int .i64 (a : Int) ∧ bv = .int .i64 (b : Int) ∧ FrL w g n c 20 a L S R wr) (fun av _ _ => n - (intOf av).toNat)
  case atStart => exact ⟨0, 20, [], L, rfl, rfl, rfl, H0.out⟩
  case round =>
    clear H0
    obtain ⟨a, b, S, R, hab, rfl, rfl, F⟩ := hrel
    have hT := F.tot
    by_cases hbn : b ≤ n
    · have hbI : (b : Int) ≤ (n : Int) := by omega
      have hR : R = R.take 20 ++ R.drop 20 := (List.take_append_drop 20 R).symm
      have hl : (R.take 20).length = 20 := by rw [List.length_take]; omega
      have hrow := F.row
      rw [hR, ← List.append_assoc] at hrow
      have hC := insertL_any (a := a) (b := b) hrow.own F.la (by rw [hl]; exact hab) hn
      have hN := Lib.hid (fun X' W' (hX : MgL (R.take 20) X') hW => F.next (X' := X') (W' := W') hR hX hl hW)
      have hwb : IntKind.i64.wrap ((b : Int) + 20) = ((b + 20 : Nat) : Int) := by rw [IntKind.wrap_i64]; omega
      clear F hrow
      go_wp2_with fail
      refine hC.mono ?_
      rintro e w5 ⟨rfl, X', hX, hW⟩
      have HN := Lib.hid (hN.out X' w5 hX hW)
      rw [hab] at HN
      clear hC hN hX hW hR hl
      go_wp2
      go_roundw
      case rel => exact ⟨b, b + 20, _, _, rfl, rfl, by go_num, HN.out⟩
      case measure => (simp [intOf] <;> omega)
    · have hbI : ¬ (b : Int) ≤ (n : Int) := by omega
      have hrow := F.row
      have hC := insertL_any (a := a) (b := n) (P := S) (S := R) (Q := []) (by rw [List.append_nil]; exact hrow.own) F.la hT hn
      have hN := Lib.hid (fun X' W' (hX : MgL R X') hW => F.last (X' := X') (W' := W') hX (by omega) hW)
      clear F hrow
      go_wp2_with fail
      refine hC.mono ?_
      rintro e w5 ⟨rfl, X', hX, hW⟩
      rw [List.append_nil] at hW
      have HN := Lib.hid (hN.out X' w5 hX hW)
      clear hC hN hX hW
      generalize S ++ X' = L1 at HN
      go_wp2
      go_loopw [6] (fun tv wr => ∃ (t : Nat) (L1 : List En), 1 ≤ t ∧ t ≤ 2000000 ∧ tv = .int .i64 (t : Int) ∧ SmL L L1 ∧ BkL t L1 ∧ RwL w g n c L1 wr) (fun tv _ => n - (intOf tv).toNat)
      case atStart => exact ⟨20, L1, by omega, by omega, rfl, HN.out.1, HN.out.2.1, HN.out.2.2⟩
      case round =>
        clear HN
        obtain ⟨t, L1, ht1, ht2, rfl, hS1, hB1, hR1⟩ := hrel
        by_cases htn : t < n
        · have htI : (t : Int) < (n : Int) := by omega
          have hw2 : IntKind.i64.wrap (2 * (t : Int)) = ((t + t : Nat) : Int) := by rw [IntKind.wrap_i64]; omega
          have hw3 : IntKind.i64.wrap ((t : Int) * 2) = ((t + t : Nat) : Int) := by rw [IntKind.wrap_i64]; omega
          obtain ⟨T, hTT⟩ : ∃ T, t + t = T := ⟨_, rfl⟩
          rw [hTT] at hw2 hw3
          have H2 := Lib.hid (show FrL w g n c T 0 L [] L1 wr ∧ BkL t L1 from ⟨⟨rfl, PreL.nil, hS1, hR1⟩, hB1⟩)
          clear hS1 hB1 hR1
          go_wp2
          go_loopw [7, 8] (fun av bv wr => ∃ (a b : Nat) (S R : List En), a + T = b ∧ av = .int .i64 (a : Int) ∧ bv = .int .i64 (b : Int) ∧ FrL w g n c T a L S R wr ∧ BkL t R) (fun av _ _ => n - (intOf av).toNat)
          case atStart => exact ⟨0, T, [], L1, by omega, rfl, rfl, H2.out.1, H2.out.2⟩
          case round =>
            clear H2
            obtain ⟨a', b', S, R, hab', rfl, rfl, F, hB⟩ := hrel
            have hT2 := F.tot
            obtain ⟨m, hm⟩ : ∃ m, a' + t = m := ⟨_, rfl⟩
            have hwm : IntKind.i64.wrap ((a' : Int) + (t : Int)) = (m : Int) := by rw [IntKind.wrap_i64]; omega
            by_cases hbn' : b' ≤ n
            · have hbI' : (b' : Int) ≤ (n : Int) := by omega
              obtain ⟨U, R1, hU, hUl, hUs, hB2⟩ := hB.take (by omega) (by omega)
              have hl1 : R1.length + t = R.length := by rw [hU, List.length_append]; omega
              obtain ⟨V, R2, hV, hVl, hVs, hB3⟩ := hB2.take (by omega) (by omega)
              have hR : R = (U ++ V) ++ R2 := by rw [hU, hV, List.append_assoc]
              have hrow := F.row
              rw [hR, ← List.append_assoc] at hrow
              have hC := symMerge_any (U.length + V.length) (a := a') (m := m) (b := b') (by omega) hrow.own F.la (by rw [hUl]; exact hm) (by rw [hVl]; omega) (by omega) (by omega) hUs hVs hn
              have hN := Lib.hid (fun X' W' (hX : MgL (U ++ V) X') hW => F.next (X' := X') (W' := W') hR hX (by rw [List.length_append]; omega) hW)
              have HB := Lib.hid hB3
              have hwb : IntKind.i64.wrap ((b' : Int) + (T : Int)) = ((b' + T : Nat) : Int) := by rw [IntKind.wrap_i64]; omega
              clear F hrow hB hB2 hB3 hU hV hR hl1
              go_wp2_with fail
              refine hC.mono ?_
              rintro e w6 ⟨rfl, X', hX, hW⟩
              have HN := Lib.hid (hN.out X' w6 hX hW)
              rw [hab'] at HN
              clear hC hN hX hW
              go_wp2
              go_roundw
              case rel => exact ⟨b', b' + T, _, _, rfl, rfl, by go_num, HN.out, HB.out⟩
              case measure => (simp [intOf] <;> omega)
            · have hbI' : ¬ (b' : Int) ≤ (n : Int) := by omega
              by_cases hmn : m < n
              · have hmI : (m : Int) < (n : Int) := by omega
                obtain ⟨U, V, hU, hUl, hUs, hB2⟩ := hB.take (by omega) (by omega)
                have hl1 : V.length + t = R.length := by rw [hU, List.length_append]; omega
                have hVs := hB2.all (by omega)
                have hrow := F.row
                rw [hU] at hrow
                have hC := symMerge_any (U.length + V.length) (a := a') (m := m) (b := n) (P := S) (Q := []) (by omega) (by rw [List.append_nil]; exact hrow.own) F.la (by rw [hUl]; exact hm) (by omega) (by omega) (by omega) hUs hVs hn
                have hN := Lib.hid (fun X' W' (hX : MgL (U ++ V) X') hW => F.last (X' := X') (W' := W') (by rw [hU]; exact hX) (by omega) hW)
                clear F hrow hB hB2 hU hl1
                go_wp2_with fail
                refine hC.mono ?_
                rintro e w6 ⟨rfl, X', hX, hW⟩
                rw [List.append_nil] at hW
                have HN := Lib.hid (hN.out X' w6 hX hW)
                clear hC hN hX hW
                go_wp2
                go_roundw
                case rel => exact ⟨T, _, by omega, by omega, by go_num, HN.out.1, HN.out.2.1, HN.out.2.2⟩
                case measure => (simp [intOf] <;> omega)
              · have hmI : ¬ (m : Int) < (n : Int) := by omega
                have HN := Lib.hid (F.last (X' := R) (W' := wr) ⟨SmL.refl _, hB.all (by omega)⟩ (by omega) (RwL.start F.row.own))
                clear F hB
                go_wp2
                go_roundw
                case rel => exact ⟨T, _, by omega, by omega, by go_num, HN.out.1, HN.out.2.1, HN.out.2.2⟩
                case measure => (simp [intOf] <;> omega)
        · have htI : ¬ (t : Int) < (n : Int) := by omega
          have HE := Lib.hid (show StO w g n c L wr from ⟨L1, ⟨hS1, hB1.all (by rw [hR1.len]; omega)⟩, hR1⟩)
          clear hS1 hB1 hR1
          go_wp2
          go_end0
          exact ⟨rfl, HE.out⟩
theorem sortStableL_any {w : World} {g n c : Nat} {L : List En} (hO : OwnK kLn w (.slice (some ⟨g, 0, none⟩) n c) L) (hn : n ≤ 1000000) :
    Calls Try.prog 28 #[.slice (some ⟨g, 0, none⟩) n c, .func (.func 29) #[] #[]] w
      fun e w' => e = .returned (.tuple #[]) ∧ StO w g n c L w' := by
  have hC := stableL_any hO hn
  clear hO
  go_enter Try.func28, Try.ntmps28
  go_wp2_with fail
  refine hC.mono ?_
  rintro e w5 ⟨rfl, h⟩
  go_wp2
  go_end0
  exact ⟨rfl, h⟩
end Go.Proofs.Ytbdafhephmoedaa
