/- The statements about package arena: ArenaSteps. Conditions: the program's arena keeps its contracts (ProgA). -/
import Derived.Test.YtfcnmbahcdpcaaaJtwo
import Derived.Test.YtfcnmbahcdpcaaaJmore
import Derived.Test.YtfcnmbahcdpcaaaTlist
namespace Go.Proofs.Ytfcnmbahcdpcaaa
open Go.ChangeShapes Go.WideShapes Go.ChangeAt Go.RowKit
set_option linter.unusedVariables false
set_option linter.unusedSimpArgs false
set_option maxRecDepth 100000

theorem Since.base {w W1 W : World} {col : Col} (h : Since W1 col W) (hb : Below w.heap.size w W1) : Since w col W := ⟨hb.trans (h.below.mono hb.size), fun b hx => h.elder b (Nat.lt_of_lt_of_le hx hb.size), h.tidy⟩
/-- What stands in a round of ArenaSteps. -/
structure StR (PA : Rep) (w : World) (ga gb bR : Nat) (h0 : Hd) (i : Nat) (col : Col) (x : ASt) (hl : List Hd) (v : Value) (W : World) : Prop where
  at_ : AtP PA w col W 16 ga x
  rf : RefA col 32 W gb x
  row : OwnKc kH col W 1 v hl
  box : BoxC col W bR 0 #[.int .i64 h0.1, .int .i64 h0.2.1, .int .i64 h0.2.2] 40
  h64 : ∀ h ∈ hl, Hd64 h
  len : hl.length ≤ i
  t : x.t ≤ i
theorem StR.below {PA : Rep} (HP : ProgA PA) {w W W' : World} {ga gb bR i : Nat} {h0 : Hd} {col : Col} {x : ASt} {hl : List Hd} {v : Value} (h : StR PA w ga gb bR h0 i col x hl v W) (hb : Below W.heap.size W W') : StR PA w ga gb bR h0 i col x hl v W' :=
  have s : StepC (fun _ => False) col W col W' := StepC.below h.at_.tidy hb
  ⟨h.at_.below HP hb, h.rf.keep s (fun _ _ h => h) (fun h => h), h.row.keep s (fun h => h), h.box.keep s (fun h => h), h.h64, h.len, h.t⟩
theorem StR.step {PA : Rep} (HP : ProgA PA) {P : Nat → Prop} {w W W' : World} {ga gb bR i : Nat} {h0 : Hd} {col col' : Col} {x : ASt} {hl : List Hd} {v : Value} (h : StR PA w ga gb bR h0 i col x hl v W) (s : StepC P col W col' W') (h16 : ∀ c, Rng 16 c → ¬ P c) (h32 : ∀ c, Rng 32 c → ¬ P c) (h1 : ¬ P 1) (hz : ¬ P 0) : StR PA w ga gb bR h0 i col' x hl v W' :=
  ⟨⟨h.at_.since.step s hz, HP.keep h.at_.pa s h16 hz⟩, h.rf.keep s h32 hz, h.row.keep s h1, h.box.keep s hz, h.h64, h.len, h.t⟩
theorem Own.made8 {w : World} {base g n : Nat} (h : w.ownsRow base 5 1 (.slice (some ⟨g, 0, none⟩) n n) n (madeCells (Value.int .u8 0).cells n).toList) : Own w base (.slice (some ⟨g, 0, none⟩) n n) (List.replicate n 0) := by
  refine ⟨?_, fun z hz => by have := (List.mem_replicate.1 hz).2; omega⟩
  rw [List.length_replicate, List.map_replicate]
  rw [show (Value.int .u8 0).cells = #[Value.int .u8 0] from rfl, toList_madeCells_one] at h
  exact h
set_option maxHeartbeats 4000000 in
theorem arenaSteps_walk {PA : Rep} (HP : ProgA PA) (A : Option Addr) (m d : Nat) (B : Option Addr) (p q : Nat) (h0 : Hd) (w : World) (hA : RdI w A m d) (hB : RdI w B p q) (hh : Hd64 h0) :
    Calls Try.prog 4 #[.slice A m d, .slice B p q, .agg #[.int .i64 h0.1, .int .i64 h0.2.1, .int .i64 h0.2.2]] w (Yes w) := by
  have hb1 : Below w.heap.size w (w.alloc (.cells #[.int .i64 h0.1, .int .i64 h0.2.1, .int .i64 h0.2.2] 40)) := (Below.refl _ _).alloc (Nat.le_refl _) _
  have hA1 := hA.below hb1
  have hcapB := hB.1
  have hmaxB := hB.2.1
  simp only [maxLen] at hmaxB
  go_enter Try.func4, Try.ntmps4
  go_wp2_with fail
  obtain ⟨W1, hW1⟩ : ∃ W1, W1 = w.alloc (.cells #[.int .i64 h0.1, .int .i64 h0.2.1, .int .i64 h0.2.2] 40) := ⟨_, rfl⟩
  have X1 := Bx.new w #[.int .i64 h0.1, .int .i64 h0.2.1, .int .i64 h0.2.2] 40
  rw [← hW1] at hb1 hA1 X1 ⊢
  clear hW1 hA
  have hX1 := X1.lt
  refine (new_any _ _ _ _).mono ?_
  rintro e w1 ⟨rfl, rfl⟩
  have hD := Dk.new hA1
  go_wp2_with fail
  refine (two_any HP hD).mono ?_
  rintro e w2 ⟨L, ga, gb, col2, rfl, hMd, A2, r2⟩
  have S2 := A2.since.base hb1
  have X2 : BoxC col2 w2 w.heap.size 0 #[.int .i64 h0.1, .int .i64 h0.2.1, .int .i64 h0.2.2] 40 := ⟨(A2.since.below.block _ hX1).trans X1, A2.since.elder _ hX1⟩
  have T0 : StR PA w ga gb w.heap.size h0 0 col2 (newA L) [] (.slice none 0 0) w2 := ⟨⟨S2, A2.pa⟩, r2, OwnKc.nil kH _ _ _, X2, fun h hx => by simp at hx, Nat.le_refl _, Nat.le_refl _⟩
  clear A2 r2 S2 X2 hD hA1 X1 hb1 hX1
  generalize w.heap.size = bR at *
  go_wp2
  go_loopw [11, 12] (fun v i wr => ∃ (i' : Nat) (col : Col) (x : ASt) (hl : List Hd), i' ≤ p ∧ i' ≤ 60 ∧ i = .int .i64 i' ∧ StR PA w ga gb bR h0 i' col x hl v wr) (fun _ i _ => p - (intOf i).toNat)
  case atStart => exact ⟨0, col2, newA L, [], Nat.zero_le _, Nat.zero_le _, rfl, T0⟩
  case round =>
    clear T0 hMd
    obtain ⟨i, col, x, hl, hip, hi60, rfl, T⟩ := hrel
    by_cases hend : i < p ∧ i < 60
    · have hpi : (i : Int) < (p : Int) := by omega
      have h6i : (i : Int) < 60 := by omega
      obtain ⟨bB, oB, s, rfl, cS, hs0, hs1⟩ := (hB.below T.at_.since.below).2.2 i hend.1
      obtain ⟨K, hKm, hK⟩ := mask_any (s / 8) 31 (by omega)
      have hK' : bits .and .i64 (s / 8) 31 = (K : Int) := hK
      obtain ⟨Zz, hZm, hZ⟩ := mask_any (s / 8) 127 (by omega)
      have hZ' : bits .and .i64 (s / 8) 127 = (Zz : Int) := hZ
      obtain ⟨NN, hNm, hN⟩ := mask_any (s / 256) 63 (by omega)
      have hN' : bits .and .i64 (s / 256) 63 = (NN : Int) := hN
      obtain ⟨V, hVm, hV⟩ := mask_any s 7 (by omega)
      have hV' : bits .and .i64 s 7 = (V : Int) := hV
      clear hK hZ hN hV
      have hZ64 : I64 (Zz : Int) := by simp only [I64]; omega
      obtain ⟨AH, cH, rfl, hrH, _⟩ := T.row.own.form rfl
      have hcapH := hrH.cap
      have hmaxH := hrH.max
      have hlen := T.len
      have b0 := T.box.cell 0 rfl
      have b1 := T.box.cell 1 rfl
      have b2 := T.box.cell 2 rfl
      have hTT := Lib.hid T
      clear T hB
      have hV8 : (V = 0 ∨ V = 1 ∨ V = 2) ∨ (V = 3 ∨ V = 4) ∨ V = 5 ∨ (V = 6 ∨ V = 7) := by omega
      rcases hV8 with hg | hg | hg | hg
      · rcases hg with rfl | rfl | rfl
        all_goals
          as_aux_lemma =>
            rcases Nat.lt_or_ge K hl.length with hk | hk
            focus
              obtain ⟨bh, oh, y1, y2, y3, rfl, hh1, hm1, hbh, k0, k1, k2⟩ := hrH.atH hk
              have hki : (K : Int) < (hl.length : Int) := by omega
              have hv64 : Hd64 (y1, y2, y3) := hTT.out.h64 _ hm1
              have bb : Below wr.heap.size wr (wr.alloc (.cells #[.int .i64 y1, .int .i64 y2, .int .i64 y3] 40)) := (Below.refl _ _).alloc (Nat.le_refl _) _
              have T2 := hTT.out.below HP bb
              have X2 := BoxC.lit (hTT.out.at_.tidy) #[.int .i64 y1, .int .i64 y2, .int .i64 y3] 40
              go_wp2_with fail
              obtain ⟨W2, hW2⟩ : ∃ W2, W2 = wr.alloc (.cells #[.int .i64 y1, .int .i64 y2, .int .i64 y3] 40) := ⟨_, rfl⟩
              rw [← hW2] at T2 X2 ⊢
              clear hW2 bb hTT
              generalize (some (⟨bh, oh, none⟩ : Addr)) = AH at *
            rotate_left
            focus
              have hki : ¬ (K : Int) < (hl.length : Int) := by omega
              have hv64 : Hd64 (h0.1, h0.2.1, h0.2.2) := hh
              have bb : Below wr.heap.size wr (wr.alloc (.cells #[.int .i64 h0.1, .int .i64 h0.2.1, .int .i64 h0.2.2] 40)) := (Below.refl _ _).alloc (Nat.le_refl _) _
              have T2 := hTT.out.below HP bb
              have X2 := BoxC.lit (hTT.out.at_.tidy) #[.int .i64 h0.1, .int .i64 h0.2.1, .int .i64 h0.2.2] 40
              go_wp2_with fail
              obtain ⟨W2, hW2⟩ : ∃ W2, W2 = wr.alloc (.cells #[.int .i64 h0.1, .int .i64 h0.2.1, .int .i64 h0.2.2] 40) := ⟨_, rfl⟩
              rw [← hW2] at T2 X2 ⊢
              clear hW2 bb hTT

            all_goals
              have hxt := T2.t
              have T2p := T2.at_.pa
              have T2t := T2.at_.tidy
              refine (HP.alloc T2p T2t (by omega) (Zz : Int) hZ64).mono ?_
              rintro e W3 ⟨rfl, hd⟩
              obtain ⟨col3, A3, s3⟩ := T2.at_.did (by omega) hd
              have r3 := T2.rf.keep s3 (fun c => rng_apart') (rng0 (by omega))
              have L3 := T2.row.keep s3 (fun h => by have := h.1; omega)
              have B3 := T2.box.keep s3 (rng0 (by omega))
              have h643 := T2.h64
              have hlen2 := T2.len
              have hxs := good_t (x := x) (Zz : Int)
              have hrange := alloc_64 (HP.good T2p) (Zz : Int) (by omega)
              generalize hal : x.alloc (Zz : Int) = al at *
              obtain ⟨⟨⟨g1, g2, g3⟩, er⟩, x3⟩ := al
              simp only at A3 r3 hxs hrange ⊢
              have bb3 : Below W3.heap.size W3 (W3.alloc (.cells #[.int .i64 g1, .int .i64 g2, .int .i64 g3] 40)) := (Below.refl _ _).alloc (Nat.le_refl _) _
              have st3 : StepC (fun _ => False) col3 W3 col3 (W3.alloc (.cells #[.int .i64 g1, .int .i64 g2, .int .i64 g3] 40)) := StepC.below A3.tidy bb3
              have X3 := BoxC.lit A3.tidy #[.int .i64 g1, .int .i64 g2, .int .i64 g3] 40
              have A3' := A3.below HP bb3
              have r3' := (T2.rf.keep s3 (fun c => rng_apart') (rng0 (by omega))).keep st3 (fun _ _ h => h) (fun h => h)
              have L3' := L3.keep st3 (fun h => h)
              have B3' := B3.keep st3 (fun h => h)
              have htd3 := A3'.tidy
              clear A3 r3 L3 B3 st3 bb3 s3 hd X2
              go_wp2_with fail
              refine (arAlloc r3' htd3 (Zz : Int) hZ64 (by omega)).mono ?_
              rintro e W4 ⟨rfl, col4, r4, s4⟩
              rw [hal] at r4 ⊢
              simp only at r4 ⊢
              have A4 : AtP PA w col4 W4 16 ga x3 := ⟨A3'.since.step s4 (rng0 (by omega)), HP.keep A3'.pa s4 (fun c => rng_apart) (rng0 (by omega))⟩
              have L4 := L3'.keep s4 (fun h => by have := h.1; omega)
              have B4 := B3'.keep s4 (rng0 (by omega))
              have X4 := X3.keep s4 (rng0 (by omega))
              have T4 : StR PA w ga gb bR h0 (i + 1) col4 x3 hl (.slice AH hl.length cH) W4 := ⟨A4, r4, L4, B4, h643, by omega, by omega⟩
              have bb4 : Below W4.heap.size W4 (W4.alloc (.cells #[.int .i64 g1, .int .i64 g2, .int .i64 g3] 40)) := (Below.refl _ _).alloc (Nat.le_refl _) _
              have T5 := T4.below HP bb4
              have X5 := X4.below T4.at_.tidy bb4
              have Y5 := BoxC.lit T4.at_.tidy #[.int .i64 g1, .int .i64 g2, .int .i64 g3] 40
              clear A3' r3' L3' B3' X3 A4 L4 B4 r4 X4 T4 s4
              have x0 : (W4.alloc (.cells #[.int .i64 g1, .int .i64 g2, .int .i64 g3] 40)).cell? ⟨W3.heap.size, 0, none⟩ = some (.int .i64 g1) := X5.cell 0 rfl
              have x1 : (W4.alloc (.cells #[.int .i64 g1, .int .i64 g2, .int .i64 g3] 40)).cell? ⟨W3.heap.size, 1, none⟩ = some (.int .i64 g2) := X5.cell 1 rfl
              have x2 : (W4.alloc (.cells #[.int .i64 g1, .int .i64 g2, .int .i64 g3] 40)).cell? ⟨W3.heap.size, 2, none⟩ = some (.int .i64 g3) := X5.cell 2 rfl
              have z0 : (W4.alloc (.cells #[.int .i64 g1, .int .i64 g2, .int .i64 g3] 40)).cell? ⟨W4.heap.size, 0, none⟩ = some (.int .i64 g1) := Y5.cell 0 rfl
              have z1 : (W4.alloc (.cells #[.int .i64 g1, .int .i64 g2, .int .i64 g3] 40)).cell? ⟨W4.heap.size, 1, none⟩ = some (.int .i64 g2) := Y5.cell 1 rfl
              have z2 : (W4.alloc (.cells #[.int .i64 g1, .int .i64 g2, .int .i64 g3] 40)).cell? ⟨W4.heap.size, 2, none⟩ = some (.int .i64 g3) := Y5.cell 2 rfl
              have hQ := fun w => eqIn_h g1 g2 g3 g1 g2 g3 w
              rw [decide_eq_true rfl] at hQ
              have hErr : (er != er) = false := by simp
              by_cases he : er = 0
              focus
                subst he
                have hTT5 := Lib.hid T5
                have bb6 : Below (W4.alloc (.cells #[.int .i64 g1, .int .i64 g2, .int .i64 g3] 40)).heap.size (W4.alloc (.cells #[.int .i64 g1, .int .i64 g2, .int .i64 g3] 40)) ((W4.alloc (.cells #[.int .i64 g1, .int .i64 g2, .int .i64 g3] 40)).alloc (.cells #[.int .i64 g1, .int .i64 g2, .int .i64 g3] 40)) := (Below.refl _ _).alloc (Nat.le_refl _) _
                have T6 := T5.below HP bb6
                have oH := T6.row.own
                have C6 : RdG kH ((W4.alloc (.cells #[.int .i64 g1, .int .i64 g2, .int .i64 g3] 40)).alloc (.cells #[.int .i64 g1, .int .i64 g2, .int .i64 g3] 40)) (some ⟨W4.heap.size + 1, 0, none⟩) 1 1 [((g1, g2, g3) : Hd)] := RdG.one' kH (by simp) ((g1, g2, g3) : Hd)
                have hby : hl.length + 1 ≤ 1000000000 := by omega
                have hTT6 := Lib.hid T6
                have hlH : (hl ++ [((g1, g2, g3) : Hd)]).length = hl.length + 1 := by simp
                clear T5 T6 X5 Y5 bb4 bb6
                go_wp2_with (at_builtin; refine wpList_appK kH rfl (.tmp 115) (.tmp 117) rfl (.slice AH hl.length cH) hl rfl _ 1 1 [((g1, g2, g3) : Hd)] rfl oH C6 hby ?_; intro v7 W7 O7 G7 hat7; obtain ⟨A7, c7, rfl, _, _⟩ := O7.form hlH)
                have s7 := StepC.app (P := fun c => c = 1) hTT6.out.at_.tidy G7 hTT6.out.row.col rfl hat7 O7.lt
                have T5 : StR PA w ga gb bR h0 (i + 1) _ x3 (hl ++ [((g1, g2, g3) : Hd)]) (.slice A7 (hl.length + 1) c7) W7 := ⟨⟨hTT6.out.at_.since.step s7 (by omega), HP.keep hTT6.out.at_.pa s7 (fun c hc h1 => by have := hc.1; omega) (by omega)⟩, hTT6.out.rf.keep s7 (fun c hc h1 => by have := hc.1; omega) (by omega), OwnKc.mk' kH O7, hTT6.out.box.keep s7 (by omega), fun h hx => by
                  rcases List.mem_append.1 hx with hx | hx
                  · exact h643 h hx
                  · rw [List.mem_singleton.1 hx]; exact hrange, by rw [hlH]; omega, hTT6.out.t⟩
                clear s7 hTT6 hTT5 O7 G7 hat7 oH C6 x0 x1 x2 z0 z1 z2 hQ
              rotate_left
              focus
                have hE0 : ¬ er = 0 := he
                clear X5 Y5 bb4 hlen2
                go_wp2_with fail
                clear x0 x1 x2 z0 z1 z2 hQ
              all_goals
                refine (HP.usage T5.at_.pa T5.at_.tidy (by have := T5.t; omega)).mono ?_
                rintro e W6 ⟨A6, c6, rfl, u6, hb6⟩
                have T6 := T5.below HP hb6
                have T6r := T6.rf
                have T6t := T6.at_.tidy
                have T6b := T6.t
                clear T5 hb6
                go_wp2_with fail
                refine (arUsage T6r T6t (by omega)).mono ?_
                rintro e W7 ⟨A7, c7, rfl, u7, hb7⟩
                have T7 := T6.below HP hb7
                have u6' := u6.below hb7
                clear T6 T6r T6t hb7 u6
                go_wp2_with fail
                refine (sameUsage_yes _ _ _ _ _ _ _ _ W7 u6' u7).mono ?_
                rintro e W8 ⟨rfl, hb8⟩
                have T8 := T7.below HP hb8
                clear T7 hb8 u6' u7
                go_wp2
                go_roundw
                case rel => exact ⟨i + 1, _, _, _, by omega, by omega, by go_num, T8⟩
                case measure => (simp [intOf] <;> omega)

      · rcases hg with rfl | rfl
        all_goals
          as_aux_lemma =>
            rcases Nat.lt_or_ge K hl.length with hk | hk
            · obtain ⟨bh, oh, y1, y2, y3, rfl, hh1, hm1, hbh, k0, k1, k2⟩ := hrH.atH hk
              have hki : (K : Int) < (hl.length : Int) := by omega
              have hv64 : Hd64 (y1, y2, y3) := hTT.out.h64 _ hm1
              have bb : Below wr.heap.size wr (wr.alloc (.cells #[.int .i64 y1, .int .i64 y2, .int .i64 y3] 40)) := (Below.refl _ _).alloc (Nat.le_refl _) _
              have T2 := hTT.out.below HP bb
              have X2 := BoxC.lit (hTT.out.at_.tidy) #[.int .i64 y1, .int .i64 y2, .int .i64 y3] 40
              go_wp2_with fail
              obtain ⟨W2, hW2⟩ : ∃ W2, W2 = wr.alloc (.cells #[.int .i64 y1, .int .i64 y2, .int .i64 y3] 40) := ⟨_, rfl⟩
              rw [← hW2] at T2 X2 ⊢
              clear hW2 bb hTT
              generalize (some (⟨bh, oh, none⟩ : Addr)) = AH at *
              have hxt := T2.t
              have hle : x.t ≤ 1000000000 := by omega
              have td0 := T2.at_.tidy
              have sd : StepC (fun _ => False) col W2 col W2.drew := StepC.drew td0
              have pa : PA col 16 W2.drew ga x := HP.keep T2.at_.pa sd (fun _ _ h => h) (fun h => h)
              have ra : RefA col 32 W2.drew gb x := T2.rf.keep sd (fun _ _ h => h) (fun h => h)
              have td : Tidy col W2.drew := sd.tidy
              have Xd := X2.keep sd (fun h => h)
              have hr1 : ∀ c, Rng 32 c → ¬ Rng 16 c := fun c => rng_apart'
              have hr2 : ∀ c, Rng 16 c → ¬ Rng 32 c := fun c => rng_apart
              have h01 : ¬ Rng 16 0 := rng0 (by omega)
              have h02 : ¬ Rng 32 0 := rng0 (by omega)
              have k0 := BoxC.three X2
              have kd := BoxC.three Xd
              have hT2 := Lib.hid T2
              clear T2 X2
              go_region_held3 (fun w' => w'.cell? ⟨wr.heap.size, 0, none⟩ = some (.int .i64 y1) ∧ w'.cell? ⟨wr.heap.size, 1, none⟩ = some (.int .i64 y2) ∧ w'.cell? ⟨wr.heap.size, 2, none⟩ = some (.int .i64 y3)) (first | exact k0 | exact kd | assumption) (first | (go_at_call 17; refine (HP.free pa td hle _ hv64).mono ?_; rintro e w5 ⟨rfl, col5, p5, t5⟩; have r5 := ra.keep t5 hr1 h01; have k5 := BoxC.three (Xd.keep t5 h01)) | (go_at_call 17; refine (HP.free p6 t6.tidy hle _ hv64).mono ?_; rintro e w7 ⟨rfl, col7, p7, t7⟩; have r7 := r6.keep t7 hr1 h01; have k7 := BoxC.three ((Xd.keep t6 h02).keep t7 h01)) | (go_at_call 21; refine (arFree' ra td hv64 hle).mono ?_; rintro e w6 ⟨rfl, col6, r6, t6⟩; have p6 := HP.keep pa t6 hr2 h02; have k6 := BoxC.three (Xd.keep t6 h02)) | (go_at_call 21; refine (arFree' r5 t5.tidy hv64 hle).mono ?_; rintro e w8 ⟨rfl, col8, r8, t8⟩; have p8 := HP.keep p5 t8 hr2 h02; have k8 := BoxC.three ((Xd.keep t5 h01).keep t8 h02)))
              all_goals
                have hn1 : ¬ Rng 16 1 := fun h => by have := h.1; omega
                have hn2 : ¬ Rng 32 1 := fun h => by have := h.1; omega
                first
                  | (have T5 : StR PA w ga gb bR h0 (i + 1) col8 (x.free (y1, y2, y3)).2 hl (.slice AH hl.length cH) w8 := ⟨⟨((hT2.out.at_.since.step sd (fun h => h)).step t5 h01).step t8 h02, p8⟩, r8, ((hT2.out.row.keep sd (fun h => h)).keep t5 hn1).keep t8 hn2, ((hT2.out.box.keep sd (fun h => h)).keep t5 h01).keep t8 h02, hT2.out.h64, Nat.le_succ_of_le hT2.out.len, by rw [free_t]; omega⟩
                     clear p8 r8 t8 t5 p5 r5 k5 k8)
                  | (have T5 : StR PA w ga gb bR h0 (i + 1) col7 (x.free (y1, y2, y3)).2 hl (.slice AH hl.length cH) w7 := ⟨⟨((hT2.out.at_.since.step sd (fun h => h)).step t6 h02).step t7 h01, p7⟩, r7, ((hT2.out.row.keep sd (fun h => h)).keep t6 hn2).keep t7 hn1, ((hT2.out.box.keep sd (fun h => h)).keep t6 h02).keep t7 h01, hT2.out.h64, Nat.le_succ_of_le hT2.out.len, by rw [free_t]; omega⟩
                     clear p7 r7 t7 t6 p6 r6 k6 k7)
                clear hT2 pa ra td Xd k0 kd sd td0
                generalize (x.free (y1, y2, y3)).1 = er at *
                go_wp2_with fail
                refine (HP.usage T5.at_.pa T5.at_.tidy (by have := T5.t; omega)).mono ?_
                rintro e W6 ⟨A6, c6, rfl, u6, hb6⟩
                have T6 := T5.below HP hb6
                have T6r := T6.rf
                have T6t := T6.at_.tidy
                have T6b := T6.t
                clear T5 hb6
                go_wp2_with fail
                refine (arUsage T6r T6t (by omega)).mono ?_
                rintro e W7 ⟨A7, c7, rfl, u7, hb7⟩
                have T7 := T6.below HP hb7
                have u6' := u6.below hb7
                clear T6 T6r T6t hb7 u6
                go_wp2_with fail
                refine (sameUsage_yes _ _ _ _ _ _ _ _ W7 u6' u7).mono ?_
                rintro e W8 ⟨rfl, hb8⟩
                have T8 := T7.below HP hb8
                clear T7 hb8 u6' u7
                go_wp2
                go_roundw
                case rel => exact ⟨i + 1, _, _, _, by omega, by omega, by go_num, T8⟩
                case measure => (simp [intOf] <;> omega)

            · have hki : ¬ (K : Int) < (hl.length : Int) := by omega
              have hv64 : Hd64 (h0.1, h0.2.1, h0.2.2) := hh
              have bb : Below wr.heap.size wr (wr.alloc (.cells #[.int .i64 h0.1, .int .i64 h0.2.1, .int .i64 h0.2.2] 40)) := (Below.refl _ _).alloc (Nat.le_refl _) _
              have T2 := hTT.out.below HP bb
              have X2 := BoxC.lit (hTT.out.at_.tidy) #[.int .i64 h0.1, .int .i64 h0.2.1, .int .i64 h0.2.2] 40
              go_wp2_with fail
              obtain ⟨W2, hW2⟩ : ∃ W2, W2 = wr.alloc (.cells #[.int .i64 h0.1, .int .i64 h0.2.1, .int .i64 h0.2.2] 40) := ⟨_, rfl⟩
              rw [← hW2] at T2 X2 ⊢
              clear hW2 bb hTT

              have hxt := T2.t
              have hle : x.t ≤ 1000000000 := by omega
              have td0 := T2.at_.tidy
              have sd : StepC (fun _ => False) col W2 col W2.drew := StepC.drew td0
              have pa : PA col 16 W2.drew ga x := HP.keep T2.at_.pa sd (fun _ _ h => h) (fun h => h)
              have ra : RefA col 32 W2.drew gb x := T2.rf.keep sd (fun _ _ h => h) (fun h => h)
              have td : Tidy col W2.drew := sd.tidy
              have Xd := X2.keep sd (fun h => h)
              have hr1 : ∀ c, Rng 32 c → ¬ Rng 16 c := fun c => rng_apart'
              have hr2 : ∀ c, Rng 16 c → ¬ Rng 32 c := fun c => rng_apart
              have h01 : ¬ Rng 16 0 := rng0 (by omega)
              have h02 : ¬ Rng 32 0 := rng0 (by omega)
              have k0 := BoxC.three X2
              have kd := BoxC.three Xd
              have hT2 := Lib.hid T2
              clear T2 X2
              go_region_held3 (fun w' => w'.cell? ⟨wr.heap.size, 0, none⟩ = some (.int .i64 h0.1) ∧ w'.cell? ⟨wr.heap.size, 1, none⟩ = some (.int .i64 h0.2.1) ∧ w'.cell? ⟨wr.heap.size, 2, none⟩ = some (.int .i64 h0.2.2)) (first | exact k0 | exact kd | assumption) (first | (go_at_call 17; refine (HP.free pa td hle _ hv64).mono ?_; rintro e w5 ⟨rfl, col5, p5, t5⟩; have r5 := ra.keep t5 hr1 h01; have k5 := BoxC.three (Xd.keep t5 h01)) | (go_at_call 17; refine (HP.free p6 t6.tidy hle _ hv64).mono ?_; rintro e w7 ⟨rfl, col7, p7, t7⟩; have r7 := r6.keep t7 hr1 h01; have k7 := BoxC.three ((Xd.keep t6 h02).keep t7 h01)) | (go_at_call 21; refine (arFree' ra td hv64 hle).mono ?_; rintro e w6 ⟨rfl, col6, r6, t6⟩; have p6 := HP.keep pa t6 hr2 h02; have k6 := BoxC.three (Xd.keep t6 h02)) | (go_at_call 21; refine (arFree' r5 t5.tidy hv64 hle).mono ?_; rintro e w8 ⟨rfl, col8, r8, t8⟩; have p8 := HP.keep p5 t8 hr2 h02; have k8 := BoxC.three ((Xd.keep t5 h01).keep t8 h02)))
              all_goals
                have hn1 : ¬ Rng 16 1 := fun h => by have := h.1; omega
                have hn2 : ¬ Rng 32 1 := fun h => by have := h.1; omega
                first
                  | (have T5 : StR PA w ga gb bR h0 (i + 1) col8 (x.free (h0.1, h0.2.1, h0.2.2)).2 hl (.slice AH hl.length cH) w8 := ⟨⟨((hT2.out.at_.since.step sd (fun h => h)).step t5 h01).step t8 h02, p8⟩, r8, ((hT2.out.row.keep sd (fun h => h)).keep t5 hn1).keep t8 hn2, ((hT2.out.box.keep sd (fun h => h)).keep t5 h01).keep t8 h02, hT2.out.h64, Nat.le_succ_of_le hT2.out.len, by rw [free_t]; omega⟩
                     clear p8 r8 t8 t5 p5 r5 k5 k8)
                  | (have T5 : StR PA w ga gb bR h0 (i + 1) col7 (x.free (h0.1, h0.2.1, h0.2.2)).2 hl (.slice AH hl.length cH) w7 := ⟨⟨((hT2.out.at_.since.step sd (fun h => h)).step t6 h02).step t7 h01, p7⟩, r7, ((hT2.out.row.keep sd (fun h => h)).keep t6 hn2).keep t7 hn1, ((hT2.out.box.keep sd (fun h => h)).keep t6 h02).keep t7 h01, hT2.out.h64, Nat.le_succ_of_le hT2.out.len, by rw [free_t]; omega⟩
                     clear p7 r7 t7 t6 p6 r6 k6 k7)
                clear hT2 pa ra td Xd k0 kd sd td0
                generalize (x.free (h0.1, h0.2.1, h0.2.2)).1 = er at *
                go_wp2_with fail
                refine (HP.usage T5.at_.pa T5.at_.tidy (by have := T5.t; omega)).mono ?_
                rintro e W6 ⟨A6, c6, rfl, u6, hb6⟩
                have T6 := T5.below HP hb6
                have T6r := T6.rf
                have T6t := T6.at_.tidy
                have T6b := T6.t
                clear T5 hb6
                go_wp2_with fail
                refine (arUsage T6r T6t (by omega)).mono ?_
                rintro e W7 ⟨A7, c7, rfl, u7, hb7⟩
                have T7 := T6.below HP hb7
                have u6' := u6.below hb7
                clear T6 T6r T6t hb7 u6
                go_wp2_with fail
                refine (sameUsage_yes _ _ _ _ _ _ _ _ W7 u6' u7).mono ?_
                rintro e W8 ⟨rfl, hb8⟩
                have T8 := T7.below HP hb8
                clear T7 hb8 u6' u7
                go_wp2
                go_roundw
                case rel => exact ⟨i + 1, _, _, _, by omega, by omega, by go_num, T8⟩
                case measure => (simp [intOf] <;> omega)


      · subst hg
        rcases Nat.lt_or_ge K hl.length with hk | hk
        · as_aux_lemma =>
            obtain ⟨bh, oh, y1, y2, y3, rfl, hh1, hm1, hbh, k0, k1, k2⟩ := hrH.atH hk
            have hki : (K : Int) < (hl.length : Int) := by omega
            have hv64 : Hd64 (y1, y2, y3) := hTT.out.h64 _ hm1
            have bb : Below wr.heap.size wr (wr.alloc (.cells #[.int .i64 y1, .int .i64 y2, .int .i64 y3] 40)) := (Below.refl _ _).alloc (Nat.le_refl _) _
            have T2 := hTT.out.below HP bb
            have X2 := BoxC.lit (hTT.out.at_.tidy) #[.int .i64 y1, .int .i64 y2, .int .i64 y3] 40
            obtain ⟨i0, hi0, hz0, hz1, hz2⟩ := info_parts info_u8
            have hby : i0.bytes * NN ≤ 281474976710656 := by rw [hz2]; omega
            have hmx : NN ≤ maxLen := by simp only [maxLen]; omega
            have HZ2 := Lib.hid hz2
            clear hz2
            go_wp2_with (at_make; refine wpList_make_full _ rfl _ _ 53 rfl 0 5 i0 _ 1 Try.underlying53 hi0 hz0 hz1 _ _ _ _ NN rfl rfl rfl rfl hby hmx (Nat.zero_le _) ?_)
            intro W3 hown hgrow
            have hsz : (wr.alloc (.cells #[.int .i64 y1, .int .i64 y2, .int .i64 y3] 40)).heap.size = wr.heap.size + 1 := by simp
            have O3 := Own.made8 hown
            have b3 : Below (wr.alloc (.cells #[.int .i64 y1, .int .i64 y2, .int .i64 y3] 40)).heap.size (wr.alloc (.cells #[.int .i64 y1, .int .i64 y2, .int .i64 y3] 40)) W3 := ⟨hgrow.os, hgrow.tape, hgrow.output, hgrow.size, fun k hk => hgrow.block k hk (by simp)⟩
            have hg3 : wr.heap.size + 1 < W3.heap.size := (O3.lt _ rfl).2
            have s3 : StepC (fun _ => False) col (wr.alloc (.cells #[.int .i64 y1, .int .i64 y2, .int .i64 y3] 40)) (dye col (some (wr.heap.size + 1)) 2) W3 := StepC.newRow T2.at_.tidy b3 (fun b e => by injection e with e; subst e; exact ⟨by rw [hsz]; exact Nat.le_refl _, hg3⟩)
            have T3 := T2.step HP s3 (fun _ _ h => h) (fun _ _ h => h) (fun h => h) (fun h => h)
            have X3 := X2.keep s3 (fun h => h)
            have hcg : dye col (some (wr.heap.size + 1)) 2 (wr.heap.size + 1) = 2 := dye_of
            generalize dye col (some (wr.heap.size + 1)) 2 = col3 at T3 X3 hcg
            generalize wr.heap.size + 1 = g at *
            generalize wr.heap.size = b14 at *
            generalize (some (⟨bh, oh, none⟩ : Addr)) = AH at *
            clear hTT bb T2 X2 hown hgrow b3 hg3 s3 hsz hi0 hz0 hz1 hby hmx HZ2
            go_wp2
            go_loopw [137] (fun u wq => ∃ (u' : Nat) (l : List Int), u' ≤ NN ∧ u = .int .i64 u' ∧ Own wq 0 (.slice (some ⟨g, 0, none⟩) NN NN) l ∧ StR PA w ga gb bR h0 i col3 x hl (.slice AH hl.length cH) wq ∧ BoxC col3 wq b14 0 #[.int .i64 y1, .int .i64 y2, .int .i64 y3] 40) (fun u _ => NN - (intOf u).toNat)
            case atStart => exact ⟨0, _, Nat.zero_le _, rfl, O3, T3, X3⟩
            case round =>
              clear O3 T3 X3
              obtain ⟨u', l, hu, rfl, O, T, X⟩ := hrel
              by_cases hul : u' < NN
              · have huli : (u' : Int) < (NN : Int) := by omega
                have ff := O.free u'
                have cc := O.reads
                obtain ⟨bz, oz, z, ez, hz, hz0, hz1, hbz, cz⟩ := cc.at_ hul
                injection ez with ez; injection ez with ez1 ez2; subst ez1 ez2
                rw [Nat.zero_add] at cz
                clear cc hz
                have hV1 := Lib.hid O
                have hV2 := Lib.hid T
                have hV3 := Lib.hid X
                clear O T X
                have sw : StepC (fun c => c = 2) col3 wr (col3) (wr.setCell ⟨g, u', none⟩ (.int .u8 (wrap64 (s + (u' : Int)) % 256))) := StepC.set hV2.out.at_.tidy hcg _
                have T9 := hV2.out.step HP sw (fun c h e => by have := h.1; omega) (fun c h e => by have := h.1; omega) (by omega) (by omega)
                have X9 := hV3.out.keep sw (by omega)
                have O9 := hV1.out.store u' (z := wrap64 (s + (u' : Int)) % 256) (by omega)
                go_wp2
                exact ⟨⟨u' + 1, _, by omega, by go_num, O9, T9, X9⟩, by simp [intOf]; omega⟩
              · have huli : ¬ (u' : Int) < (NN : Int) := by omega
                have hxt := T.t
                have hle : x.t ≤ 1000000000 := by omega
                have hnn : NN ≤ 1000000 := by omega
                have td0 := T.at_.tidy
                have sd : StepC (fun _ => False) col3 wr col3 wr.drew := StepC.drew td0
                have pa : PA col3 16 wr.drew ga x := HP.keep T.at_.pa sd (fun _ _ h => h) (fun h => h)
                have ra : RefA col3 32 wr.drew gb x := T.rf.keep sd (fun _ _ h => h) (fun h => h)
                have td : Tidy col3 wr.drew := sd.tidy
                have Xd := X.keep sd (fun h => h)
                have hr1 : ∀ c, Rng 32 c → ¬ Rng 16 c := fun c => rng_apart'
                have hr2 : ∀ c, Rng 16 c → ¬ Rng 32 c := fun c => rng_apart
                have h01 : ¬ Rng 16 0 := rng0 (by omega)
                have h02 : ¬ Rng 32 0 := rng0 (by omega)
                have hb16 : ¬ Rng 16 2 := fun h => by have := h.1; omega
                have hb32 : ¬ Rng 32 2 := fun h => by have := h.1; omega
                have bx0 : RdX 2 col3 wr (some ⟨g, 0, none⟩) NN NN l := ⟨O.reads, fun _ b o sp e => by injection e with e; injection e with e; subst e; exact hcg⟩
                have bx := bx0.keep sd (fun h => h)
                have k0 := BoxC.three X
                have kd := BoxC.three Xd
                have hT2 := Lib.hid T
                clear T X O bx0
                go_wp2
                go_region_held3 (fun w' => w'.cell? ⟨b14, 0, none⟩ = some (.int .i64 y1) ∧ w'.cell? ⟨b14, 1, none⟩ = some (.int .i64 y2) ∧ w'.cell? ⟨b14, 2, none⟩ = some (.int .i64 y3)) (first | exact k0 | exact kd | assumption) (first | (go_at_call 22; refine (HP.write pa td hle _ hv64 hb16 bx hnn).mono ?_; rintro e w5 ⟨rfl, col5, p5, t5⟩; have r5 := ra.keep t5 hr1 h01; have k5 := BoxC.three (Xd.keep t5 h01); have b5 := bx.keep t5 hb16) | (go_at_call 22; refine (HP.write p6 t6.tidy hle _ hv64 hb16 b6 hnn).mono ?_; rintro e w7 ⟨rfl, col7, p7, t7⟩; have r7 := r6.keep t7 hr1 h01; have k7 := BoxC.three ((Xd.keep t6 h02).keep t7 h01)) | (go_at_call 23; refine (arWrite' ra td hv64 hb32 bx hnn hle).mono ?_; rintro e w6 ⟨rfl, col6, r6, t6⟩; have p6 := HP.keep pa t6 hr2 h02; have k6 := BoxC.three (Xd.keep t6 h02); have b6 := bx.keep t6 hb32) | (go_at_call 23; refine (arWrite' r5 t5.tidy hv64 hb32 b5 hnn hle).mono ?_; rintro e w8 ⟨rfl, col8, r8, t8⟩; have p8 := HP.keep p5 t8 hr2 h02; have k8 := BoxC.three ((Xd.keep t5 h01).keep t8 h02)))
                all_goals
                  have hn1 : ¬ Rng 16 1 := fun h => by have := h.1; omega
                  have hn2 : ¬ Rng 32 1 := fun h => by have := h.1; omega
                  first
                    | (have T5 : StR PA w ga gb bR h0 (i + 1) col8 (x.write (y1, y2, y3) l).2 hl (.slice AH hl.length cH) w8 := ⟨⟨((hT2.out.at_.since.step sd (fun h => h)).step t5 h01).step t8 h02, p8⟩, r8, ((hT2.out.row.keep sd (fun h => h)).keep t5 hn1).keep t8 hn2, ((hT2.out.box.keep sd (fun h => h)).keep t5 h01).keep t8 h02, hT2.out.h64, Nat.le_succ_of_le hT2.out.len, by rw [write_t]; omega⟩
                       clear p8 r8 t8 t5 p5 r5 k5 k8 b5)
                    | (have T5 : StR PA w ga gb bR h0 (i + 1) col7 (x.write (y1, y2, y3) l).2 hl (.slice AH hl.length cH) w7 := ⟨⟨((hT2.out.at_.since.step sd (fun h => h)).step t6 h02).step t7 h01, p7⟩, r7, ((hT2.out.row.keep sd (fun h => h)).keep t6 hn2).keep t7 hn1, ((hT2.out.box.keep sd (fun h => h)).keep t6 h02).keep t7 h01, hT2.out.h64, Nat.le_succ_of_le hT2.out.len, by rw [write_t]; omega⟩
                       clear p7 r7 t7 t6 p6 r6 k6 k7 b6)
                  clear hT2 pa ra td Xd k0 kd sd td0 bx
                  generalize (x.write (y1, y2, y3) l).1 = er at *
                  go_wp2_with fail
                  refine (HP.usage T5.at_.pa T5.at_.tidy (by have := T5.t; omega)).mono ?_
                  rintro e W6 ⟨A6, c6, rfl, u6, hb6⟩
                  have T6 := T5.below HP hb6
                  have T6r := T6.rf
                  have T6t := T6.at_.tidy
                  have T6b := T6.t
                  clear T5 hb6
                  go_wp2_with fail
                  refine (arUsage T6r T6t (by omega)).mono ?_
                  rintro e W7 ⟨A7, c7, rfl, u7, hb7⟩
                  have T7 := T6.below HP hb7
                  have u6' := u6.below hb7
                  clear T6 T6r T6t hb7 u6
                  go_wp2_with fail
                  refine (sameUsage_yes _ _ _ _ _ _ _ _ W7 u6' u7).mono ?_
                  rintro e W8 ⟨rfl, hb8⟩
                  have T8 := T7.below HP hb8
                  clear T7 hb8 u6' u7
                  go_wp2
                  go_roundw
                  case rel => exact ⟨i + 1, _, _, _, by omega, by omega, by go_num, T8⟩
                  case measure => (simp [intOf] <;> omega)

        · as_aux_lemma =>
            have hki : ¬ (K : Int) < (hl.length : Int) := by omega
            have hv64 : Hd64 (h0.1, h0.2.1, h0.2.2) := hh
            have bb : Below wr.heap.size wr (wr.alloc (.cells #[.int .i64 h0.1, .int .i64 h0.2.1, .int .i64 h0.2.2] 40)) := (Below.refl _ _).alloc (Nat.le_refl _) _
            have T2 := hTT.out.below HP bb
            have X2 := BoxC.lit (hTT.out.at_.tidy) #[.int .i64 h0.1, .int .i64 h0.2.1, .int .i64 h0.2.2] 40
            obtain ⟨i0, hi0, hz0, hz1, hz2⟩ := info_parts info_u8
            have hby : i0.bytes * NN ≤ 281474976710656 := by rw [hz2]; omega
            have hmx : NN ≤ maxLen := by simp only [maxLen]; omega
            have HZ2 := Lib.hid hz2
            clear hz2
            go_wp2_with (at_make; refine wpList_make_full _ rfl _ _ 53 rfl 0 5 i0 _ 1 Try.underlying53 hi0 hz0 hz1 _ _ _ _ NN rfl rfl rfl rfl hby hmx (Nat.zero_le _) ?_)
            intro W3 hown hgrow
            have hsz : (wr.alloc (.cells #[.int .i64 h0.1, .int .i64 h0.2.1, .int .i64 h0.2.2] 40)).heap.size = wr.heap.size + 1 := by simp
            have O3 := Own.made8 hown
            have b3 : Below (wr.alloc (.cells #[.int .i64 h0.1, .int .i64 h0.2.1, .int .i64 h0.2.2] 40)).heap.size (wr.alloc (.cells #[.int .i64 h0.1, .int .i64 h0.2.1, .int .i64 h0.2.2] 40)) W3 := ⟨hgrow.os, hgrow.tape, hgrow.output, hgrow.size, fun k hk => hgrow.block k hk (by simp)⟩
            have hg3 : wr.heap.size + 1 < W3.heap.size := (O3.lt _ rfl).2
            have s3 : StepC (fun _ => False) col (wr.alloc (.cells #[.int .i64 h0.1, .int .i64 h0.2.1, .int .i64 h0.2.2] 40)) (dye col (some (wr.heap.size + 1)) 2) W3 := StepC.newRow T2.at_.tidy b3 (fun b e => by injection e with e; subst e; exact ⟨by rw [hsz]; exact Nat.le_refl _, hg3⟩)
            have T3 := T2.step HP s3 (fun _ _ h => h) (fun _ _ h => h) (fun h => h) (fun h => h)
            have X3 := X2.keep s3 (fun h => h)
            have hcg : dye col (some (wr.heap.size + 1)) 2 (wr.heap.size + 1) = 2 := dye_of
            generalize dye col (some (wr.heap.size + 1)) 2 = col3 at T3 X3 hcg
            generalize wr.heap.size + 1 = g at *
            generalize wr.heap.size = b14 at *

            clear hTT bb T2 X2 hown hgrow b3 hg3 s3 hsz hi0 hz0 hz1 hby hmx HZ2
            go_wp2
            go_loopw [137] (fun u wq => ∃ (u' : Nat) (l : List Int), u' ≤ NN ∧ u = .int .i64 u' ∧ Own wq 0 (.slice (some ⟨g, 0, none⟩) NN NN) l ∧ StR PA w ga gb bR h0 i col3 x hl (.slice AH hl.length cH) wq ∧ BoxC col3 wq b14 0 #[.int .i64 h0.1, .int .i64 h0.2.1, .int .i64 h0.2.2] 40) (fun u _ => NN - (intOf u).toNat)
            case atStart => exact ⟨0, _, Nat.zero_le _, rfl, O3, T3, X3⟩
            case round =>
              clear O3 T3 X3
              obtain ⟨u', l, hu, rfl, O, T, X⟩ := hrel
              by_cases hul : u' < NN
              · have huli : (u' : Int) < (NN : Int) := by omega
                have ff := O.free u'
                have cc := O.reads
                obtain ⟨bz, oz, z, ez, hz, hz0, hz1, hbz, cz⟩ := cc.at_ hul
                injection ez with ez; injection ez with ez1 ez2; subst ez1 ez2
                rw [Nat.zero_add] at cz
                clear cc hz
                have hV1 := Lib.hid O
                have hV2 := Lib.hid T
                have hV3 := Lib.hid X
                clear O T X
                have sw : StepC (fun c => c = 2) col3 wr (col3) (wr.setCell ⟨g, u', none⟩ (.int .u8 (wrap64 (s + (u' : Int)) % 256))) := StepC.set hV2.out.at_.tidy hcg _
                have T9 := hV2.out.step HP sw (fun c h e => by have := h.1; omega) (fun c h e => by have := h.1; omega) (by omega) (by omega)
                have X9 := hV3.out.keep sw (by omega)
                have O9 := hV1.out.store u' (z := wrap64 (s + (u' : Int)) % 256) (by omega)
                go_wp2
                exact ⟨⟨u' + 1, _, by omega, by go_num, O9, T9, X9⟩, by simp [intOf]; omega⟩
              · have huli : ¬ (u' : Int) < (NN : Int) := by omega
                have hxt := T.t
                have hle : x.t ≤ 1000000000 := by omega
                have hnn : NN ≤ 1000000 := by omega
                have td0 := T.at_.tidy
                have sd : StepC (fun _ => False) col3 wr col3 wr.drew := StepC.drew td0
                have pa : PA col3 16 wr.drew ga x := HP.keep T.at_.pa sd (fun _ _ h => h) (fun h => h)
                have ra : RefA col3 32 wr.drew gb x := T.rf.keep sd (fun _ _ h => h) (fun h => h)
                have td : Tidy col3 wr.drew := sd.tidy
                have Xd := X.keep sd (fun h => h)
                have hr1 : ∀ c, Rng 32 c → ¬ Rng 16 c := fun c => rng_apart'
                have hr2 : ∀ c, Rng 16 c → ¬ Rng 32 c := fun c => rng_apart
                have h01 : ¬ Rng 16 0 := rng0 (by omega)
                have h02 : ¬ Rng 32 0 := rng0 (by omega)
                have hb16 : ¬ Rng 16 2 := fun h => by have := h.1; omega
                have hb32 : ¬ Rng 32 2 := fun h => by have := h.1; omega
                have bx0 : RdX 2 col3 wr (some ⟨g, 0, none⟩) NN NN l := ⟨O.reads, fun _ b o sp e => by injection e with e; injection e with e; subst e; exact hcg⟩
                have bx := bx0.keep sd (fun h => h)
                have k0 := BoxC.three X
                have kd := BoxC.three Xd
                have hT2 := Lib.hid T
                clear T X O bx0
                go_wp2
                go_region_held3 (fun w' => w'.cell? ⟨b14, 0, none⟩ = some (.int .i64 h0.1) ∧ w'.cell? ⟨b14, 1, none⟩ = some (.int .i64 h0.2.1) ∧ w'.cell? ⟨b14, 2, none⟩ = some (.int .i64 h0.2.2)) (first | exact k0 | exact kd | assumption) (first | (go_at_call 22; refine (HP.write pa td hle _ hv64 hb16 bx hnn).mono ?_; rintro e w5 ⟨rfl, col5, p5, t5⟩; have r5 := ra.keep t5 hr1 h01; have k5 := BoxC.three (Xd.keep t5 h01); have b5 := bx.keep t5 hb16) | (go_at_call 22; refine (HP.write p6 t6.tidy hle _ hv64 hb16 b6 hnn).mono ?_; rintro e w7 ⟨rfl, col7, p7, t7⟩; have r7 := r6.keep t7 hr1 h01; have k7 := BoxC.three ((Xd.keep t6 h02).keep t7 h01)) | (go_at_call 23; refine (arWrite' ra td hv64 hb32 bx hnn hle).mono ?_; rintro e w6 ⟨rfl, col6, r6, t6⟩; have p6 := HP.keep pa t6 hr2 h02; have k6 := BoxC.three (Xd.keep t6 h02); have b6 := bx.keep t6 hb32) | (go_at_call 23; refine (arWrite' r5 t5.tidy hv64 hb32 b5 hnn hle).mono ?_; rintro e w8 ⟨rfl, col8, r8, t8⟩; have p8 := HP.keep p5 t8 hr2 h02; have k8 := BoxC.three ((Xd.keep t5 h01).keep t8 h02)))
                all_goals
                  have hn1 : ¬ Rng 16 1 := fun h => by have := h.1; omega
                  have hn2 : ¬ Rng 32 1 := fun h => by have := h.1; omega
                  first
                    | (have T5 : StR PA w ga gb bR h0 (i + 1) col8 (x.write (h0.1, h0.2.1, h0.2.2) l).2 hl (.slice AH hl.length cH) w8 := ⟨⟨((hT2.out.at_.since.step sd (fun h => h)).step t5 h01).step t8 h02, p8⟩, r8, ((hT2.out.row.keep sd (fun h => h)).keep t5 hn1).keep t8 hn2, ((hT2.out.box.keep sd (fun h => h)).keep t5 h01).keep t8 h02, hT2.out.h64, Nat.le_succ_of_le hT2.out.len, by rw [write_t]; omega⟩
                       clear p8 r8 t8 t5 p5 r5 k5 k8 b5)
                    | (have T5 : StR PA w ga gb bR h0 (i + 1) col7 (x.write (h0.1, h0.2.1, h0.2.2) l).2 hl (.slice AH hl.length cH) w7 := ⟨⟨((hT2.out.at_.since.step sd (fun h => h)).step t6 h02).step t7 h01, p7⟩, r7, ((hT2.out.row.keep sd (fun h => h)).keep t6 hn2).keep t7 hn1, ((hT2.out.box.keep sd (fun h => h)).keep t6 h02).keep t7 h01, hT2.out.h64, Nat.le_succ_of_le hT2.out.len, by rw [write_t]; omega⟩
                       clear p7 r7 t7 t6 p6 r6 k6 k7 b6)
                  clear hT2 pa ra td Xd k0 kd sd td0 bx
                  generalize (x.write (h0.1, h0.2.1, h0.2.2) l).1 = er at *
                  go_wp2_with fail
                  refine (HP.usage T5.at_.pa T5.at_.tidy (by have := T5.t; omega)).mono ?_
                  rintro e W6 ⟨A6, c6, rfl, u6, hb6⟩
                  have T6 := T5.below HP hb6
                  have T6r := T6.rf
                  have T6t := T6.at_.tidy
                  have T6b := T6.t
                  clear T5 hb6
                  go_wp2_with fail
                  refine (arUsage T6r T6t (by omega)).mono ?_
                  rintro e W7 ⟨A7, c7, rfl, u7, hb7⟩
                  have T7 := T6.below HP hb7
                  have u6' := u6.below hb7
                  clear T6 T6r T6t hb7 u6
                  go_wp2_with fail
                  refine (sameUsage_yes _ _ _ _ _ _ _ _ W7 u6' u7).mono ?_
                  rintro e W8 ⟨rfl, hb8⟩
                  have T8 := T7.below HP hb8
                  clear T7 hb8 u6' u7
                  go_wp2
                  go_roundw
                  case rel => exact ⟨i + 1, _, _, _, by omega, by omega, by go_num, T8⟩
                  case measure => (simp [intOf] <;> omega)


      · rcases hg with rfl | rfl
        all_goals
          as_aux_lemma =>
            rcases Nat.lt_or_ge K hl.length with hk | hk
            focus
              obtain ⟨bh, oh, y1, y2, y3, rfl, hh1, hm1, hbh, k0, k1, k2⟩ := hrH.atH hk
              have hki : (K : Int) < (hl.length : Int) := by omega
              have hv64 : Hd64 (y1, y2, y3) := hTT.out.h64 _ hm1
              have bb : Below wr.heap.size wr (wr.alloc (.cells #[.int .i64 y1, .int .i64 y2, .int .i64 y3] 40)) := (Below.refl _ _).alloc (Nat.le_refl _) _
              have T2 := hTT.out.below HP bb
              have X2 := BoxC.lit (hTT.out.at_.tidy) #[.int .i64 y1, .int .i64 y2, .int .i64 y3] 40
              go_wp2_with fail
              obtain ⟨W2, hW2⟩ : ∃ W2, W2 = wr.alloc (.cells #[.int .i64 y1, .int .i64 y2, .int .i64 y3] 40) := ⟨_, rfl⟩
              rw [← hW2] at T2 X2 ⊢
              clear hW2 bb hTT
              generalize (some (⟨bh, oh, none⟩ : Addr)) = AH at *
            rotate_left
            focus
              have hki : ¬ (K : Int) < (hl.length : Int) := by omega
              have hv64 : Hd64 (h0.1, h0.2.1, h0.2.2) := hh
              have bb : Below wr.heap.size wr (wr.alloc (.cells #[.int .i64 h0.1, .int .i64 h0.2.1, .int .i64 h0.2.2] 40)) := (Below.refl _ _).alloc (Nat.le_refl _) _
              have T2 := hTT.out.below HP bb
              have X2 := BoxC.lit (hTT.out.at_.tidy) #[.int .i64 h0.1, .int .i64 h0.2.1, .int .i64 h0.2.2] 40
              go_wp2_with fail
              obtain ⟨W2, hW2⟩ : ∃ W2, W2 = wr.alloc (.cells #[.int .i64 h0.1, .int .i64 h0.2.1, .int .i64 h0.2.2] 40) := ⟨_, rfl⟩
              rw [← hW2] at T2 X2 ⊢
              clear hW2 bb hTT

            all_goals
              have hxt := T2.t
              have T2p := T2.at_.pa
              have T2t := T2.at_.tidy
              refine (HP.read T2p T2t (by omega) _ hv64).mono ?_
              rintro e W3 ⟨Ar, nr, cr, rfl, col3, p3, s3, d3⟩
              have A3 : AtP PA w col3 W3 16 ga _ := ⟨T2.at_.since.step s3 (rng0 (by omega)), p3⟩
              have r3 := T2.rf.keep s3 (fun c => rng_apart') (rng0 (by omega))
              have L3 := T2.row.keep s3 (fun h => by have := h.1; omega)
              have B3 := T2.box.keep s3 (rng0 (by omega))
              have X3 := X2.keep s3 (rng0 (by omega))
              have h643 := T2.h64
              have hlen2 := T2.len
              have e0 := X3.cell 0 rfl
              have e1 := X3.cell 1 rfl
              have e2 := X3.cell 2 rfl
              clear T2 T2p T2t X2 s3 p3
              go_wp2_with fail
              refine (arRead' r3 A3.tidy hv64 (by omega)).mono ?_
              rintro e W4 ⟨Aq, nq, cq, rfl, col4, r4, s4, d4⟩
              have T4 : StR PA w ga gb bR h0 (i + 1) col4 _ hl (.slice AH hl.length cH) W4 := ⟨⟨A3.since.step s4 (rng0 (by omega)), HP.keep A3.pa s4 (fun c => rng_apart) (rng0 (by omega))⟩, r4, L3.keep s4 (fun h => by have := h.1; omega), B3.keep s4 (rng0 (by omega)), h643, by omega, by rw [read_t]; omega⟩
              have d3' := d3.keep s4 (rng0 (by omega))
              have hnn : nr = nq := by have h1 := d3'.rd.len; have h2 := d4.rd.len; omega
              subst hnn
              have D3 := d3'.rd
              have D4 := d4.rd
              clear A3 r3 L3 B3 X3 r4 s4 d3 d3' d4 e0 e1 e2
              generalize (x.read _).1.2 = er at *
              go_wp2_with fail
              refine (same_yes _ _ _ _ _ _ W4 D3 D4).mono ?_
              rintro e W5 ⟨rfl, j, rfl⟩
              have T5 := T4.below HP (below_drewN (Below.refl _ _) j)
              clear T4 D3 D4
              go_wp2_with fail
              refine (HP.usage T5.at_.pa T5.at_.tidy (by have := T5.t; omega)).mono ?_
              rintro e W6 ⟨A6, c6, rfl, u6, hb6⟩
              have T6 := T5.below HP hb6
              have T6r := T6.rf
              have T6t := T6.at_.tidy
              have T6b := T6.t
              clear T5 hb6
              go_wp2_with fail
              refine (arUsage T6r T6t (by omega)).mono ?_
              rintro e W7 ⟨A7, c7, rfl, u7, hb7⟩
              have T7 := T6.below HP hb7
              have u6' := u6.below hb7
              clear T6 T6r T6t hb7 u6
              go_wp2_with fail
              refine (sameUsage_yes _ _ _ _ _ _ _ _ W7 u6' u7).mono ?_
              rintro e W8 ⟨rfl, hb8⟩
              have T8 := T7.below HP hb8
              clear T7 hb8 u6' u7
              go_wp2
              go_roundw
              case rel => exact ⟨i + 1, _, _, _, by omega, by omega, by go_num, T8⟩
              case measure => (simp [intOf] <;> omega)

    · by_cases hp : i < p
      · have h60 : i = 60 := by omega
        subst h60
        have hb := T.at_.since.below
        clear T
        have hpi : ((60 : Nat) : Int) < (p : Int) := by omega
        go_wp2_with fail
        refine (awake_any HP _).mono ?_
        rintro e w4 ⟨rfl, hb4⟩
        go_wp2
        go_ret
        exact ⟨rfl, hb.trans (hb4.mono hb.size)⟩
      · have hb := T.at_.since.below
        have hpi : ¬ (i : Int) < (p : Int) := by omega
        clear T
        go_wp2_with fail
        refine (awake_any HP _).mono ?_
        rintro e w4 ⟨rfl, hb4⟩
        go_wp2
        go_ret
        exact ⟨rfl, hb.trans (hb4.mono hb.size)⟩
end Go.Proofs.Ytfcnmbahcdpcaaa
