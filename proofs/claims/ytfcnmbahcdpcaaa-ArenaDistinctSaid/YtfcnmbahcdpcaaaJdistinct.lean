/- The statements about package arena: ArenaDistinct. Conditions: the program's arena keeps its contracts (ProgA). -/
import Derived.Test.YtfcnmbahcdpcaaaJtwo
import Derived.Test.YtfcnmbahcdpcaaaJheld
import Derived.Test.YtfcnmbahcdpcaaaJmore
import Derived.Test.YtfcnmbahcdpcaaaTlist
import Derived.Deep.RegionLaw
namespace Go.Proofs.Ytfcnmbahcdpcaaa
open Go.ChangeShapes Go.WideShapes Go.ChangeAt Go.RowKit
set_option linter.unusedVariables false
set_option linter.unusedSimpArgs false
set_option maxRecDepth 100000

/-- What stands in a round of ArenaDistinct. -/
structure DsR (PA : Rep) (w : World) (ga i : Nat) (col : Col) (x : ASt) (hl : List Hd) (v : Value) (W : World) : Prop where
  at_ : AtP PA w col W 16 ga x
  row : OwnKc kH col W 1 v hl
  held : Held x hl
  h64 : ∀ h ∈ hl, Hd64 h
  len : hl.length ≤ i
  t : x.t ≤ 2 * i
  fa : x.fa = 0
theorem DsR.step {PA : Rep} (HP : ProgA PA) {P : Nat → Prop} {w W W' : World} {ga i : Nat} {col col' : Col} {x : ASt} {hl : List Hd} {v : Value} (h : DsR PA w ga i col x hl v W) (s : StepC P col W col' W') (h16 : ∀ c, Rng 16 c → ¬ P c) (h1 : ¬ P 1) (hz : ¬ P 0) : DsR PA w ga i col' x hl v W' :=
  ⟨⟨h.at_.since.step s hz, HP.keep h.at_.pa s h16 hz⟩, h.row.keep s h1, h.held, h.h64, h.len, h.t, h.fa⟩
theorem DsR.below {PA : Rep} (HP : ProgA PA) {w W W' : World} {ga i : Nat} {col : Col} {x : ASt} {hl : List Hd} {v : Value} (h : DsR PA w ga i col x hl v W) (hb : Below W.heap.size W W') : DsR PA w ga i col x hl v W' :=
  h.step HP (P := fun _ => False) (StepC.below h.at_.tidy hb) (fun _ _ h => h) (fun h => h) (fun h => h)
set_option maxHeartbeats 4000000 in
theorem arenaDistinct_walk {PA : Rep} (HP : ProgA PA) (A : Option Addr) (m d : Nat) (B : Option Addr) (p q : Nat) (w : World) (hA : RdI w A m d) (hB : RdI w B p q) :
    Calls Try.prog 5 #[.slice A m d, .slice B p q] w (Yes w) := by
  have hcapB := hB.1
  have hmaxB := hB.2.1
  simp only [maxLen] at hmaxB
  go_enter Try.func5, Try.ntmps5
  go_wp2_with fail
  refine (new_any _ _ _ _).mono ?_
  rintro e w1 ⟨rfl, rfl⟩
  have hD := Dk.new hA
  go_wp2_with fail
  refine (two_any HP hD).mono ?_
  rintro e w2 ⟨L, ga, gb, col2, rfl, hMd, A2, _⟩
  have T0 : DsR PA w ga 0 col2 (newA L) [] (.slice none 0 0) w2 := ⟨A2, OwnKc.nil kH _ _ _, Held.nil _, fun h hx => by simp at hx, Nat.le_refl _, Nat.le_refl _, rfl⟩
  clear A2 hD hA hMd
  go_wp2
  go_loopw [8, 9] (fun v i wr => ∃ (i' : Nat) (col : Col) (x : ASt) (hl : List Hd), i' ≤ p ∧ i' ≤ 40 ∧ i = .int .i64 i' ∧ DsR PA w ga i' col x hl v wr) (fun _ i _ => p - (intOf i).toNat)
  case atStart => exact ⟨0, col2, newA L, [], Nat.zero_le _, Nat.zero_le _, rfl, T0⟩
  case round =>
    clear T0
    obtain ⟨i, col, x, hl, hip, hi40, rfl, T⟩ := hrel
    by_cases hend : i < p ∧ i < 40
    · have hpi : (i : Int) < (p : Int) := by omega
      have h4i : (i : Int) < 40 := by omega
      obtain ⟨bB, oB, s, rfl, cS, hs0, hs1⟩ := (hB.below T.at_.since.below).2.2 i hend.1
      obtain ⟨Zz, hZm, hZ⟩ := mask_any (s / 4) 63 (by omega)
      have hZ' : bits .and .i64 (s / 4) 63 = (Zz : Int) := hZ
      obtain ⟨V, hVm, hV⟩ := mask_any s 3 (by omega)
      have hV' : bits .and .i64 s 3 = (V : Int) := hV
      clear hZ hV
      have hZ64 : I64 (1 + (Zz : Int)) := by simp only [I64]; omega
      have hlen := T.len
      have htt := T.t
      obtain ⟨AH, cH, rfl, hrH, _⟩ := T.row.own.form rfl
      have hcapH := hrH.cap
      have hmaxH := hrH.max
      have hG := HP.good T.at_.pa
      clear hB
      by_cases hfree : V = 0 ∧ 0 < hl.length
      · as_aux_lemma =>
          obtain ⟨rfl, hpos⟩ := hfree
          obtain ⟨bg, rfl, hbg⟩ := T.row.own.head hpos
          obtain ⟨K, hKt, hKlt⟩ := modN (Zz : Int) hl.length hpos (by omega)
          have hK' : (Zz : Int).tmod (hl.length : Int) = (K : Int) := hKt
          obtain ⟨bh, oh, y1, y2, y3, hAH, hg1, hm1, hbh, k0, k1, k2⟩ := hrH.atH hKlt
          injection hAH with hAH
          injection hAH with e1 e2
          subst e1 e2
          rw [Nat.zero_add] at k0 k1 k2
          have hv64 : Hd64 (y1, y2, y3) := T.h64 _ hm1
          have hsplit : hl = hl.take K ++ (y1, y2, y3) :: hl.drop (K + 1) := by rw [← drop_at hg1, List.take_append_drop]
          have hHeld := T.held
          rw [hsplit] at hHeld
          obtain ⟨f1, f2, f3, f4⟩ := hHeld.freed hG
          have hft := free_t x (y1, y2, y3)
          have hfa := T.fa
          have hKc : (K : Int) < (hl.length : Int) := by omega
          have hl0 : (0 : Int) < (hl.length : Int) := by omega
          have hlne : ¬ (hl.length : Int) = 0 := by omega
          have HTT := Lib.hid T
          have HKt := Lib.hid hKt
          clear hHeld hsplit hKt
          go_wp2_with fail
          refine (HP.free HTT.out.at_.pa HTT.out.at_.tidy (by omega) (y1, y2, y3) hv64).mono ?_
          rintro e W3 ⟨rfl, hd⟩
          rw [f1]
          obtain ⟨col3, A3, s3⟩ := HTT.out.at_.did (by omega) hd
          have L3 := HTT.out.row.keep s3 (fun h => by have := h.1; omega)
          have T3 : DsR PA w ga (i + 1) col3 (x.free (y1, y2, y3)).2 hl (.slice (some ⟨bg, 0, none⟩) hl.length cH) W3 → True := fun _ => trivial
          have h64 := HTT.out.h64
          clear T3 HTT hd s3 k0 k1 k2 hbg hbh
          have hr3 := L3.own.reads
          obtain ⟨q1, hq1⟩ : ∃ q1 : Nat, q1 = K + 1 := ⟨_, rfl⟩
          have hwq : IntKind.i64.wrap ((K : Int) + 1) = (q1 : Int) := by rw [IntKind.wrap_i64]; omega
          obtain ⟨AD, hAD, r2⟩ : ∃ AD, (if cH = q1 then (some ⟨bg, 0, none⟩ : Option Addr) else some ⟨bg, q1 * 3, none⟩) = some AD ∧ RdG kH W3 (some AD) (hl.length - q1) (cH - q1) (hl.drop q1) := by
            have h := hr3.dropIf (i := q1) (by omega)
            rw [show 0 + q1 * kH.k = q1 * 3 by simp [kH]] at h
            by_cases hc : cH = q1
            · rw [if_pos hc] at h ⊢; exact ⟨_, rfl, h⟩
            · rw [if_neg hc] at h ⊢; exact ⟨_, rfl, h⟩
          have r1 := hr3.head (j := K) (by omega)
          have hq2 : (q1 : Int) ≤ (hl.length : Int) := by omega
          have hKh : (K : Int) ≤ (cH : Int) := by omega
          have hby1 : ([] : List Hd).length + K ≤ 1000000000 := by simp; omega
          have hby2 : ([] ++ hl.take K).length + (hl.length - q1) ≤ 1000000000 := by simp; omega
          have hOl : ([] ++ hl.take K ++ hl.drop q1).length = hl.length - 1 := by simp; omega
          have HQ1 := Lib.hid hq1
          have HA3 := Lib.hid A3
          have td3 := A3.tidy
          clear hq1 A3 hr3 hrH hG
          go_wp2
          go_region_law (first | (refine step_appN kH W3 rfl (.tmp 64) (.tmp 67) rfl _ [] rfl (some ⟨bg, 0, none⟩) K cH _ rfl (OwnK.empty kH rfl) (New.lit (Nat.le_refl _)) (bd1 _ _) (r1.below (bd1 _ _)) hby1 ?_; intro v4 w4 O4 N4 B4) | (refine step_appN kH W3 rfl (.tmp 68) (.tmp 72) rfl _ _ rfl (some AD) (hl.length - q1) (cH - q1) _ rfl O4 N4 B4 (r2.below B4) hby2 ?_; intro v5 w5 O5 N5 B5; obtain ⟨A5, c5, rfl, _, _⟩ := O5.form hOl))
          all_goals
            have S5 : StepC (fun _ => False) col3 W3 (dye col3 (Value.slice A5 (hl.length - 1) c5).ownBlock 1) w5 := StepC.newRow td3 B5 fun b e => ⟨N5 b e, O5.lt b e⟩
            have O6 := OwnKc.mk' (col := col3) (c := 1) kH O5
            have T6 : DsR PA w ga (i + 1) (dye col3 (Value.slice A5 (hl.length - 1) c5).ownBlock 1) (x.free (y1, y2, y3)).2 (hl.take K ++ hl.drop (K + 1)) (.slice A5 (hl.length - 1) c5) w5 := ⟨⟨HA3.out.since.step S5 (fun h => h), HP.keep HA3.out.pa S5 (fun _ _ h => h) (fun h => h)⟩, by rw [← HQ1.out]; exact O6, f2, fun h hx => h64 h (by
              rcases List.mem_append.1 hx with hx | hx
              · exact List.mem_of_mem_take hx
              · exact List.mem_of_mem_drop hx), by rw [List.length_append, List.length_take, List.length_drop]; omega, by omega, by omega⟩
            clear S5 O6 O5 N5 B5 O4 N4 B4 r1 r2 L3
            go_wp2
            go_roundw
            case rel => exact ⟨i + 1, _, _, _, by omega, by omega, by go_num, T6⟩
            case measure => (simp [intOf] <;> omega)
      · as_aux_lemma =>
          have HTT := Lib.hid T
          clear T
          rcases (show ¬ V = 0 ∨ (V = 0 ∧ hl.length = 0) by omega) with hV0 | ⟨rfl, hl0⟩
          focus
            have hV0' : ¬ (V : Int) = 0 := by omega
            go_wp2_with fail
          rotate_left
          focus
            have hlz : ¬ (0 : Int) < (hl.length : Int) := by omega
            clear hl0 hfree
            go_wp2_with fail
          all_goals
            refine (HP.alloc HTT.out.at_.pa HTT.out.at_.tidy (by omega) (1 + (Zz : Int)) hZ64).mono ?_
            rintro e W3 ⟨rfl, hd⟩
            obtain ⟨col3, A3, s3⟩ := HTT.out.at_.did (by omega) hd
            have L3 := HTT.out.row.keep s3 (fun h => by have := h.1; omega)
            have hxs := good_t (x := x) (1 + (Zz : Int))
            have hrange := alloc_64 hG (1 + (Zz : Int)) (by omega)
            have hTk := took hG (1 + (Zz : Int))
            have hfl := alloc_fail (x := x) (z := 1 + (Zz : Int))
            have hGA := hG.alloc (1 + (Zz : Int))
            have hH := HTT.out.held
            have h64 := HTT.out.h64
            have hfa := HTT.out.fa
            generalize hal : x.alloc (1 + (Zz : Int)) = al at *
            obtain ⟨⟨⟨g1, g2, g3⟩, er⟩, x3⟩ := al
            simp only at A3 hxs hrange hTk hfl hGA ⊢
            obtain ⟨A4, X4⟩ := A3.lit HP #[.int .i64 g1, .int .i64 g2, .int .i64 g3] 40
            have L4 := L3.keep (P := fun _ => False) (StepC.alloc A3.tidy (.cells #[.int .i64 g1, .int .i64 g2, .int .i64 g3] 40)) (fun h => h)
            clear A3 L3 s3 hd HTT hal
            by_cases her : er = 0
            · subst her
              obtain ⟨j, y, Tk⟩ := hTk rfl
              have hap := hH.apart hGA Tk
              have hfa3 := Tk.fa
              have hW := (hH.rest Tk).wrote hGA Tk.at_ Tk.u Tk.h hap
              simp only at hW
              obtain ⟨v1, v2, v3, v4⟩ := hW
              have hwt := write_t x3 (g1, g2, g3) [g3 % 256]
              clear hTk hfl hH Tk v4
              go_wp2_with fail
              obtain ⟨W4, hW4⟩ : ∃ W4, W4 = W3.alloc (.cells #[.int .i64 g1, .int .i64 g2, .int .i64 g3] 40) := ⟨_, rfl⟩
              rw [← hW4] at A4 X4 L4 ⊢
              have hr4 := L4.own.reads
              generalize W3.heap.size = bR at *
              clear hW4 hG hGA
              go_wp2
              go_loopw [87] (fun k wr => ∃ j' : Nat, j' ≤ hl.length ∧ k = .int .i64 j' ∧ Below W4.heap.size W4 wr) (fun k _ => hl.length - (intOf k).toNat)
              case atStart => exact ⟨0, Nat.zero_le _, rfl, Below.refl _ _⟩
              case round =>
                obtain ⟨j', hj', rfl, hbW⟩ := hrel
                have A5 := A4.below HP hbW
                have X5 := X4.below A4.tidy hbW
                by_cases hlt : j' < hl.length
                · try (exfalso; omega)
                  all_goals
                    obtain ⟨bh, oh, p1, p2, p3, rfl, hg1, hm1, hbh, k0, k1, k2⟩ := (hr4.below hbW).atH hlt
                    have hjl : (j' : Int) < (hl.length : Int) := by omega
                    have hne := hap _ hm1
                    simp only at hne
                    have bb : Below wr.heap.size wr (wr.alloc (.cells #[.int .i64 p1, .int .i64 p2, .int .i64 p3] 40)) := (Below.refl _ _).alloc (Nat.le_refl _) _
                    have X6 := X5.below A5.tidy bb
                    have Y6 := BoxC.lit A5.tidy #[.int .i64 p1, .int .i64 p2, .int .i64 p3] 40
                    have x0 : (wr.alloc (.cells #[.int .i64 p1, .int .i64 p2, .int .i64 p3] 40)).cell? ⟨bR, 0, none⟩ = some (.int .i64 g1) := X6.cell 0 rfl
                    have x1 : (wr.alloc (.cells #[.int .i64 p1, .int .i64 p2, .int .i64 p3] 40)).cell? ⟨bR, 1, none⟩ = some (.int .i64 g2) := X6.cell 1 rfl
                    have y0 : (wr.alloc (.cells #[.int .i64 p1, .int .i64 p2, .int .i64 p3] 40)).cell? ⟨wr.heap.size, 0, none⟩ = some (.int .i64 p1) := Y6.cell 0 rfl
                    have y1 : (wr.alloc (.cells #[.int .i64 p1, .int .i64 p2, .int .i64 p3] 40)).cell? ⟨wr.heap.size, 1, none⟩ = some (.int .i64 p2) := Y6.cell 1 rfl
                    have hb9 := hbW.trans (bb.mono hbW.size)
                    have HB9 := Lib.hid hb9
                    clear hb9 hbW A5 X5 X6 Y6 A4 X4 L4 hr4 bb
                    by_cases h1 : p1 = g1
                    · have h2 : ¬ p2 = g2 := fun e => hne ⟨h1, e⟩
                      subst h1
                      go_wp2
                      go_roundw
                      case rel => exact ⟨j' + 1, by omega, by go_num, HB9.out⟩
                      case measure => (simp [intOf] <;> omega)
                    · go_wp2
                      go_roundw
                      case rel => exact ⟨j' + 1, by omega, by go_num, HB9.out⟩
                      case measure => (simp [intOf] <;> omega)
                · have hjn : j' = hl.length := by omega
                  have hjl : ¬ (j' : Int) < (hl.length : Int) := by omega
                  have L5 := L4.keep (P := fun _ => False) (StepC.below A4.tidy hbW) (fun h => h)
                  have hwz : IntKind.u8.wrap g3 = g3 % 256 := IntKind.wrap_u8 g3
                  have hz0 : 0 ≤ g3 % 256 ∧ g3 % 256 ≤ 255 := by omega
                  have x0 : wr.cell? ⟨bR, 0, none⟩ = some (.int .i64 g1) := X5.cell 0 rfl
                  have x1 : wr.cell? ⟨bR, 1, none⟩ = some (.int .i64 g2) := X5.cell 1 rfl
                  have x2 : wr.cell? ⟨bR, 2, none⟩ = some (.int .i64 g3) := X5.cell 2 rfl
                  have bb : Below wr.heap.size wr (wr.alloc (.cells #[.int .u8 (g3 % 256)] 5)) := (Below.refl _ _).alloc (Nat.le_refl _) _
                  have R6 : Rd (wr.alloc (.cells #[.int .u8 (g3 % 256)] 5)) (some ⟨wr.heap.size, 0, none⟩) 1 1 [g3 % 256] := Rd.one' rfl hz0
                  have A6 := A5.below HP bb
                  have X6 := X5.below A5.tidy bb
                  have L6 := L5.keep (P := fun _ => False) (StepC.below A5.tidy bb) (fun h => h)
                  have hc0 : col3 wr.heap.size = 0 := A5.tidy _ (Nat.le_refl _)
                  clear A4 X4 L4 hr4 hbW A5 L5 hap
                  go_wp2_with fail
                  refine (HP.write A6.pa A6.tidy (by omega) (g1, g2, g3) hrange (c0 := 0) (rng0 (by omega)) ⟨R6, fun _ b o sp e => by injection e with e; injection e with e; subst e; exact hc0⟩ (by omega)).mono ?_
                  rintro e W7 ⟨rfl, hd⟩
                  rw [v1]
                  obtain ⟨col7, A7, s7⟩ := A6.did (by omega) hd
                  have L7 := L6.keep s7 (fun h => by have := h.1; omega)
                  have X7 := X6.keep s7 (rng0 (by omega))
                  have x0 : W7.cell? ⟨bR, 0, none⟩ = some (.int .i64 g1) := X7.cell 0 rfl
                  have x1 : W7.cell? ⟨bR, 1, none⟩ = some (.int .i64 g2) := X7.cell 1 rfl
                  have x2 : W7.cell? ⟨bR, 2, none⟩ = some (.int .i64 g3) := X7.cell 2 rfl
                  have b8 : Below W7.heap.size W7 (W7.alloc (.cells #[.int .i64 g1, .int .i64 g2, .int .i64 g3] 40)) := (Below.refl _ _).alloc (Nat.le_refl _) _
                  have A8 := A7.below HP b8
                  have L8 := L7.keep (P := fun _ => False) (StepC.below A7.tidy b8) (fun h => h)
                  have C8 : RdG kH (W7.alloc (.cells #[.int .i64 g1, .int .i64 g2, .int .i64 g3] 40)) (some ⟨W7.heap.size, 0, none⟩) 1 1 [((g1, g2, g3) : Hd)] := RdG.one' kH rfl ((g1, g2, g3) : Hd)
                  have oH := L8.own
                  have hby : hl.length + 1 ≤ 1000000000 := by omega
                  have hlH : (hl ++ [((g1, g2, g3) : Hd)]).length = hl.length + 1 := by simp
                  have HA8 := Lib.hid A8
                  have HL8 := Lib.hid L8
                  clear A6 X6 L6 A7 X7 L7 A8 L8 b8 hd s7 R6 bb
                  go_wp2_with (at_builtin; refine wpList_appK kH rfl (.tmp 112) (.tmp 114) rfl (.slice AH hl.length cH) hl rfl _ 1 1 [((g1, g2, g3) : Hd)] rfl oH C8 hby ?_; intro v9 W9 O9 G9 hat9; obtain ⟨A9, c9, rfl, _, _⟩ := O9.form hlH)
                  have s9 := StepC.app (P := fun c => c = 1) HA8.out.tidy G9 HL8.out.col rfl hat9 O9.lt
                  have T9 : DsR PA w ga (i + 1) _ (x3.write (g1, g2, g3) [g3 % 256]).2 (hl ++ [((g1, g2, g3) : Hd)]) (.slice A9 (hl.length + 1) c9) W9 := ⟨⟨HA8.out.since.step s9 (by omega), HP.keep HA8.out.pa s9 (fun c hc h1 => by have := hc.1; omega) (by omega)⟩, OwnKc.mk' kH O9, v2, fun h hx => by
                    rcases List.mem_append.1 hx with hx | hx
                    · exact h64 h hx
                    · rw [List.mem_singleton.1 hx]; exact hrange, by rw [hlH]; omega, by omega, by omega⟩
                  clear s9 HA8 HL8 O9 G9 hat9 oH C8 x0 x1 x2
                  go_wp2
                  go_roundw
                  case rel => exact ⟨i + 1, _, _, _, by omega, by omega, by go_num, T9⟩
                  case measure => (simp [intOf] <;> omega)
            · have T5 : DsR PA w ga (i + 1) col3 x3 hl (.slice AH hl.length cH) (W3.alloc (.cells #[.int .i64 g1, .int .i64 g2, .int .i64 g3] 40)) := ⟨A4, L4, by rw [hfl her]; exact hH.tick, h64, by omega, by omega, by rw [hfl her]; exact hfa⟩
              clear A4 L4 X4 hTk hfl hH
              go_wp2
              go_roundw
              case rel => exact ⟨i + 1, _, _, _, by omega, by omega, by go_num, T5⟩
              case measure => (simp [intOf] <;> omega)
    · as_aux_lemma =>
        obtain ⟨AH, cH, rfl, hrH, _⟩ := T.row.own.form rfl
        have hcapH := hrH.cap
        have hmaxH := hrH.max
        have hlen := T.len
        have T4 : DsR PA w ga 40 col x hl (.slice AH hl.length cH) wr := ⟨T.at_, T.row, T.held, T.h64, by omega, by have := T.t; omega, T.fa⟩
        clear T hrH hB
        rcases (show (i < p ∧ i = 40) ∨ ¬ i < p by omega) with ⟨hp, rfl⟩ | hp
        focus
          have hpi : ((40 : Nat) : Int) < (p : Int) := by omega
          go_wp2
        rotate_left
        focus
          have hpi : ¬ (i : Int) < (p : Int) := by omega
          go_wp2
        all_goals
          clear hend
          go_loopw [118] (fun k wr => ∃ (j' : Nat) (col : Col) (x : ASt), j' ≤ hl.length ∧ k = .int .i64 j' ∧ DsR PA w ga (40 + j') col x hl (.slice AH hl.length cH) wr) (fun k _ => hl.length - (intOf k).toNat)
          case atStart => exact ⟨0, col, x, Nat.zero_le _, rfl, T4⟩
          case round =>
            clear T4
            obtain ⟨j', col', x', hj', rfl, T⟩ := hrel
            by_cases hlt : j' < hl.length
            · obtain ⟨bh, oh, p1, p2, p3, rfl, hg1, hm1, hbh, k0, k1, k2⟩ := T.row.own.reads.atH hlt
              have hjl : (j' : Int) < (hl.length : Int) := by omega
              have hh64 := T.h64 _ hm1
              have hrd := T.held.read (HP.good T.at_.pa) hm1
              simp only at hrd
              obtain ⟨A5, X5⟩ := T.at_.lit HP #[.int .i64 p1, .int .i64 p2, .int .i64 p3] 40
              have T5 := T.below HP ((Below.refl _ _).alloc (Nat.le_refl _) (.cells #[.int .i64 p1, .int .i64 p2, .int .i64 p3] 40))
              have htt := T.t
              clear T
              go_wp2_with fail
              refine (HP.read A5.pa A5.tidy (by omega) (p1, p2, p3) hh64).mono ?_
              rintro e W6 ⟨A6, n6, c6, rfl, col6, pa6, s6, r6⟩
              rw [hrd] at pa6 r6 ⊢
              simp only at pa6 r6 ⊢
              have X6 := X5.keep s6 (rng0 (by omega))
              have T6 : DsR PA w ga (40 + (j' + 1)) col6 x'.tick hl (.slice (some ⟨bh, oh, none⟩) hl.length cH) W6 := ⟨⟨A5.since.step s6 (rng0 (by omega)), pa6⟩, T5.row.keep s6 (fun h => by have := h.1; omega), T5.held.tick, T5.h64, by omega, by simp only [ASt.tick]; omega, T5.fa⟩
              have hr6 := r6.rd
              have hn6 := hr6.len
              simp only [List.length_cons, List.length_nil] at hn6
              subst hn6
              obtain ⟨b6, o6, z6, rfl, hz6, _, _, _, q6⟩ := hr6.at_ (show 0 < 1 by omega)
              simp at hz6
              subst hz6
              rw [Nat.add_zero] at q6
              have x0 : W6.cell? ⟨wr.heap.size, 0, none⟩ = some (.int .i64 p1) := X6.cell 0 rfl
              have x1 : W6.cell? ⟨wr.heap.size, 1, none⟩ = some (.int .i64 p2) := X6.cell 1 rfl
              have x2 : W6.cell? ⟨wr.heap.size, 2, none⟩ = some (.int .i64 p3) := X6.cell 2 rfl
              have hwz : IntKind.u8.wrap p3 = p3 % 256 := IntKind.wrap_u8 p3
              have HT6 := Lib.hid T6
              clear A5 X5 T5 T6 X6 r6 hr6 pa6 s6 hrd k0 k1 k2
              go_wp2
              go_quiet (fail)
              go_wp2
              go_roundw
              case rel => exact ⟨j' + 1, _, _, by omega, by go_num, HT6.out.below HP (below_drewN (Below.refl _ _) _)⟩
              case measure => (simp [intOf] <;> omega)
            · have hjn : j' = hl.length := by omega
              have hjl : ¬ (j' : Int) < (hl.length : Int) := by omega
              have htt := T.t
              have hfa := T.fa
              have hb := T.at_.since.below
              go_wp2_with fail
              refine (HP.usage T.at_.pa T.at_.tidy (by omega)).mono ?_
              rintro e w7 ⟨A7, c7, rfl, _, hb7⟩
              rw [show (x'.fa : Int) = 0 by rw [hfa]; rfl]
              have hF2 := fun w => usage_faults A7 x'.L.length c7 (bytesN x'.L x'.s) 0 w
              have hb2 := hb.trans (hb7.mono hb.size)
              clear T hb7 hb
              go_wp2_with fail
              refine (awake_any HP _).mono ?_
              rintro e w8 ⟨rfl, hb8⟩
              go_wp2
              go_ret
              exact ⟨rfl, hb2.trans (hb8.mono hb2.size)⟩
end Go.Proofs.Ytfcnmbahcdpcaaa
