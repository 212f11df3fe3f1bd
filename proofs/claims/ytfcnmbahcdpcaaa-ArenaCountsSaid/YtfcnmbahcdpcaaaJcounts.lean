/- The statements about package arena: ArenaCounts. Conditions: the program's arena keeps its contracts (ProgA). -/
import Derived.Test.YtfcnmbahcdpcaaaJtwo
import Derived.Test.YtfcnmbahcdpcaaaJmore
import Derived.Test.YtfcnmbahcdpcaaaJnum
import Derived.Test.YtfcnmbahcdpcaaaKqueue
import Derived.Test.YtfcnmbahcdpcaaaTlist
namespace Go.Proofs.Ytfcnmbahcdpcaaa
open Go.ChangeShapes Go.WideShapes Go.ChangeAt Go.RowKit
set_option linter.unusedVariables false
set_option linter.unusedSimpArgs false
set_option maxRecDepth 100000

/-- What stands in a round of ArenaCounts. -/
structure CtR (PA : Rep) (w : World) (ga bl i : Nat) (L : List (Int × Int)) (AL : Option Addr) (cL : Nat) (col : Col) (x : ASt) (hl : List Hd) (v : Value) (W : World) : Prop where
  at_ : AtP PA w col W 16 ga x
  cls : RdK0 kC col W AL L.length cL L
  row : OwnKc kI col W 2 (.slice (some ⟨bl, 0, none⟩) L.length L.length) (liveL L.length x.s)
  q : OwnQc kH col W 1 v hl
  held : HeldU x hl
  h64 : ∀ h ∈ hl, Hd64 h
  len : hl.length ≤ i
  t : x.t ≤ i
  xl : x.L = L
theorem CtR.step {PA : Rep} (HP : ProgA PA) {P : Nat → Prop} {w W W' : World} {ga bl i : Nat} {L : List (Int × Int)} {AL : Option Addr} {cL : Nat} {col col' : Col} {x : ASt} {hl : List Hd} {v : Value} (h : CtR PA w ga bl i L AL cL col x hl v W) (s : StepC P col W col' W') (h16 : ∀ c, Rng 16 c → ¬ P c) (h1 : ¬ P 1) (h2 : ¬ P 2) (hz : ¬ P 0) : CtR PA w ga bl i L AL cL col' x hl v W' :=
  ⟨⟨h.at_.since.step s hz, HP.keep h.at_.pa s h16 hz⟩, h.cls.keep s hz, h.row.keep s h2, h.q.keep s h1, h.held, h.h64, h.len, h.t, h.xl⟩
theorem CtR.below {PA : Rep} (HP : ProgA PA) {w W W' : World} {ga bl i : Nat} {L : List (Int × Int)} {AL : Option Addr} {cL : Nat} {col : Col} {x : ASt} {hl : List Hd} {v : Value} (h : CtR PA w ga bl i L AL cL col x hl v W) (hb : Below W.heap.size W W') : CtR PA w ga bl i L AL cL col x hl v W' :=
  h.step HP (P := fun _ => False) (StepC.below h.at_.tidy hb) (fun _ _ h => h) (fun h => h) (fun h => h) (fun h => h)
theorem n16 (h : Rng 16 1) : False := by have := h.1; omega
theorem n16' (h : Rng 16 2) : False := by have := h.1; omega
set_option maxHeartbeats 8000000 in
theorem arenaCounts_walk {PA : Rep} (HP : ProgA PA) (A : Option Addr) (m d : Nat) (B : Option Addr) (p q : Nat) (w : World) (hA : RdI w A m d) (hB : RdI w B p q) :
    Calls Try.prog 7 #[.slice A m d, .slice B p q] w (Yes w) := by
  have hcapB := hB.1
  have hmaxB := hB.2.1
  simp only [maxLen] at hmaxB
  go_enter Try.func7, Try.ntmps7
  go_wp2_with fail
  refine (new_any _ _ _ _).mono ?_
  rintro e w1 ⟨rfl, rfl⟩
  have hD := Dk.new hA
  have hge := hD.ge
  have hlow := hD.low
  go_wp2_with fail
  refine (classes_dk hD).mono ?_
  rintro e W1 ⟨A1, m1, c1, L, rfl, hR, hnew, hM, _, hg⟩
  obtain rfl := hR.len
  have hm4 := hM.n4
  have hm1 := hM.n1
  have S1 : Since w (fun _ => 0) W1 := ⟨hlow.grown hg hlow.size (fun q e => by injection e with e; omega), fun _ _ => rfl, fun _ _ => rfl⟩
  have R1 : RdK0 kC (fun _ => 0) W1 A1 L.length c1 L := ⟨hR, fun _ _ _ _ _ => rfl⟩
  clear hD hA hge hlow hg hR hnew
  go_wp2_with fail
  refine (HP.new (k := 16) S1.tidy (by omega) R1.rd (by omega) hM.bd).mono ?_
  rintro e W2 (⟨_, ga, rfl, hd⟩ | ⟨h0, _⟩)
  rotate_left
  · exact absurd hM.ok h0
  obtain ⟨col2, p2, s2⟩ := hd
  have R2 := R1.keep s2 (rng0 (by omega))
  have A2 : AtP PA w col2 W2 16 ga (newA L) := ⟨S1.step s2 (rng0 (by omega)), p2⟩
  have hok : ∀ x ∈ L, 1 ≤ x.1 ∧ x.1 ≤ 4096 ∧ 0 ≤ x.2 ∧ x.2 ≤ 65536 := fun x hx => by have := hM.sm x hx; omega
  have hmk := run_make_row' (P := Try.prog) 23 3 (.int .i64 0) 8 Try.underlying23 kI.info rfl .i64 .i64 L.length (by omega) (by omega)
  have hcapL := R2.rd.cap
  have hmaxL := R2.rd.max
  have T0 : ∃ col3, CtR PA w ga W2.heap.size 0 L A1 c1 col3 (newA L) [] (.slice none 0 0) (W2.alloc (.cells (madeCells #[Value.int .i64 0] L.length) 3)) := by
    have hb : Below W2.heap.size W2 (W2.alloc (.cells (madeCells #[Value.int .i64 0] L.length) 3)) := (Below.refl _ _).alloc (Nat.le_refl _) _
    have s : StepC (fun _ => False) col2 W2 (dye col2 (some W2.heap.size) 2) (W2.alloc (.cells (madeCells #[Value.int .i64 0] L.length) 3)) := StepC.newRow A2.tidy hb fun b e => by injection e with e; subst e; exact ⟨Nat.le_refl _, by simp⟩
    have hz := OwnK.zeros W2 L.length (by simp only [maxLen]; omega) rfl
    refine ⟨_, ⟨A2.since.step s (fun h => h), HP.keep A2.pa s (fun _ _ h => h) (fun h => h)⟩, R2.keep s (fun h => h), ⟨by show OwnK kI _ _ (liveL L.length []); rw [live_nil]; exact hz, fun q hq => by simp [Value.ownBlock] at hq; subst hq; exact dye_of⟩, ⟨OwnQ.nil kH _, HasCol.nil _ _⟩, HeldU.nil _, fun h hx => by simp at hx, Nat.le_refl _, Nat.le_refl _, rfl⟩
  obtain ⟨col3, T0⟩ := T0
  clear p2 s2 A2 R1 R2 S1 hM
  go_wp2
  obtain ⟨W3, hW3⟩ : ∃ W3, W3 = W2.alloc (.cells (madeCells #[Value.int .i64 0] L.length) 3) := ⟨_, rfl⟩
  rw [← hW3] at T0 ⊢
  clear hW3 hmk
  generalize W2.heap.size = bl at *
  go_loopw [10, 11] (fun v i wr => ∃ (i' : Nat) (col : Col) (x : ASt) (hl : List Hd), i' ≤ p ∧ i' ≤ 60 ∧ i = .int .i64 i' ∧ CtR PA w ga bl i' L A1 c1 col x hl v wr) (fun _ i _ => p - (intOf i).toNat)
  case atStart => exact ⟨0, col3, newA L, [], Nat.zero_le _, Nat.zero_le _, rfl, T0⟩
  case round =>
    clear T0
    obtain ⟨i, col, x, hl, hip, hi60, rfl, T⟩ := hrel
    by_cases hend : i < p ∧ i < 60
    · have hpi : (i : Int) < (p : Int) := by omega
      have h6i : (i : Int) < 60 := by omega
      obtain ⟨bB, oB, s, rfl, cS0, hs0, hs1⟩ := hB.2.2 i hend.1
      have cS : wr.cell? ⟨bB, oB + i, none⟩ = some (.int .i64 s) := (T.at_.since.below.cell (World.block_lt_of_cell? _ _ cS0)).trans cS0
      have HcS := Lib.hid cS0
      clear cS0
      obtain ⟨Zz, hZm, hZ⟩ := mask_any (s / 2) 127 (by omega)
      have hZ' : bits .and .i64 (s / 2) 127 = (Zz : Int) := hZ
      obtain ⟨V, hVm, hV⟩ := mask_any s 1 (by omega)
      have hV' : bits .and .i64 s 1 = (V : Int) := hV
      clear hZ hV
      have hZ64 : I64 (1 + (Zz : Int)) := by simp only [I64]; omega
      have hlen := T.len
      have htt := T.t
      obtain ⟨AH, cH, rfl, hrH⟩ := T.q.own.form rfl
      have hcapH := hrH.cap
      have hmaxH := hrH.max
      have hG := HP.good T.at_.pa
      have hxL := T.xl
      by_cases hfree : V = 0 ∧ 0 < hl.length
      · as_aux_lemma =>
          obtain ⟨rfl, hpos⟩ := hfree
          obtain ⟨⟨y1, y2, y3⟩, hl2, rfl⟩ : ∃ h hl2, hl = h :: hl2 := by
            cases hl with
            | nil => simp at hpos
            | cons h hl2 => exact ⟨h, hl2, rfl⟩
          obtain ⟨bg, og, p1, p2, p3, rfl, hg1, _, hbg, k0, k1, k2⟩ := hrH.atH hpos
          simp at hg1
          obtain ⟨rfl, rfl, rfl⟩ := hg1
          obtain ⟨c, hc, hcL, hcp, f1, f2, f3, f4⟩ := T.held.freed hG
          have hv64 : Hd64 (y1, y2, y3) := T.h64 _ (by simp)
          simp only at hc
          subst hc
          rw [hxL] at hcL
          rw [Nat.zero_mul, Nat.add_zero] at k0 k1 k2
          obtain ⟨hnl, hc1, hQ⟩ := T.q.own.tail
          obtain ⟨AD, hAD, hQ⟩ : ∃ AD, (if cH = 1 then (some ⟨bg, og, none⟩ : Option Addr) else some ⟨bg, og + 3, none⟩) = some AD ∧ OwnQ kH wr (.slice (some AD) (((c : Int), y2, y3) :: hl2 : List Hd).length.pred (cH - 1)) hl2 := by
            by_cases h1 : cH = 1
            · rw [if_pos h1] at hQ ⊢; exact ⟨_, rfl, hQ⟩
            · rw [if_neg h1] at hQ ⊢; exact ⟨_, rfl, hQ⟩
          have hft := free_t x ((c : Int), y2, y3)
          have hcols := T.q.col
          have hlv := liveN_le x.s c
          have hfew := hG.few
          generalize hfr : x.free ((c : Int), y2, y3) = fr at *
          obtain ⟨er, x9⟩ := fr
          simp only at f1 f2 f3 f4 hft
          subst f1
          have f4L := f4 L.length
          generalize hNN : (((c : Int), y2, y3) :: hl2 : List Hd).length = N at *
          simp only [Nat.pred_eq_sub_one] at hQ
          have hN1 : (1 : Int) ≤ (N : Int) := by omega
          have hN0 : (0 : Int) < (N : Int) := by omega
          have hc1i : (1 : Int) ≤ (cH : Int) := by omega
          have hcc : (c : Int) < (L.length : Int) := by omega
          have hc0 : ¬ (c : Int) < 0 := by omega
          obtain ⟨A3, X3⟩ := T.at_.lit HP #[.int .i64 (c : Int), .int .i64 y2, .int .i64 y3] 40
          have b3 : Below wr.heap.size wr (wr.alloc (.cells #[.int .i64 (c : Int), .int .i64 y2, .int .i64 y3] 40)) := (Below.refl _ _).alloc (Nat.le_refl _) _
          have T3 := T.below HP b3
          have Q3 : OwnQc kH col (wr.alloc (.cells #[.int .i64 (c : Int), .int .i64 y2, .int .i64 y3] 40)) 1 (.slice (some AD) (N - 1) (cH - 1)) hl2 := OwnQc.keep (P := fun _ => False) ⟨hQ, fun q hq => hcols q (by
            simp [Value.ownBlock] at hq ⊢
            by_cases h1 : cH = 1
            · rw [if_pos h1] at hAD; injection hAD with hAD; subst hAD; exact hq
            · rw [if_neg h1] at hAD; injection hAD with hAD; subst hAD; exact hq)⟩ (StepC.below T.at_.tidy b3) (fun h => h)
          have h64 := T.h64
          have HT3 := Lib.hid T3
          have HFR := Lib.hid hfr
          have hlen2 : hl2.length ≤ i := by omega
          clear T T3 hQ hcols b3 hnl hNN hfr f4
          go_wp2_with fail
          refine (HP.free A3.pa A3.tidy (by omega) ((c : Int), y2, y3) hv64).mono ?_
          rintro e W4 ⟨rfl, hd⟩
          rw [HFR.out] at hd ⊢
          obtain ⟨col4, A4, s4⟩ := A3.did (by omega) hd
          have X4 := X3.keep s4 (rng0 (by omega))
          have R4 := HT3.out.row.keep s4 (fun h => n16' h)
          have C4 := HT3.out.cls.keep s4 (rng0 (by omega))
          have Q4 := Q3.keep s4 (fun h => n16 h)
          have x0 : W4.cell? ⟨wr.heap.size, 0, none⟩ = some (.int .i64 (c : Int)) := X4.cell 0 rfl
          have hat := liveL_at (s := x.s) hcL
          have v0 := R4.own.cell (j := c) (i := 0) hat rfl
          have vf := R4.own.free c
          rw [show c * kI.k + 0 = c by simp [kI]] at v0
          have hbl := R4.own.lt bl rfl
          have r5 := R4.own.store hat (i := 0) (a' := (liveN x.s c : Int) - 1) (u := .int .i64 ((liveN x.s c : Int) - 1)) K_one rfl
          rw [show c * kI.k + 0 = c by simp [kI], ← f4L] at r5
          have s5 : StepC (fun c => c = 2) col4 W4 col4 (W4.setCell ⟨bl, c, none⟩ (.int .i64 ((liveN x.s c : Int) - 1))) := StepC.set A4.tidy (R4.col bl rfl) _
          have T9 : CtR PA w ga bl (i + 1) L A1 c1 col4 x9 hl2 (.slice (some AD) (N - 1) (cH - 1)) (W4.setCell ⟨bl, c, none⟩ (.int .i64 ((liveN x.s c : Int) - 1))) := ⟨⟨A4.since.step s5 (by omega), HP.keep A4.pa s5 (fun c h e => by have := h.1; omega) (by omega)⟩, C4.keep s5 (by omega), ⟨r5, R4.col⟩, Q4.keep s5 (by omega), f2, fun h hx => h64 h (by simp [hx]), Nat.le_succ_of_le hlen2, by omega, by rw [f3]; exact hxL⟩
          have HT9 := Lib.hid T9
          generalize liveN x.s c = LV at *
          clear T9 A3 X3 HT3 hd s4 A4 X4 R4 C4 Q4 Q3 hat r5 s5 f4L
          go_wp2_with fail
          have T9 := HT9.out
          clear HT9
          generalize W4.setCell ⟨bl, c, none⟩ (.int .i64 ((LV : Int) - 1)) = W5 at *
          have hxl := T9.xl
          have hG9 := HP.good T9.at_.pa
          refine (HP.usage T9.at_.pa T9.at_.tidy (by have := T9.t; omega)).mono ?_
          rintro e WU ⟨AU, cU, rfl, uU, hbU⟩
          have TU := (T9.below HP hbU)
          rw [hxl] at uU ⊢
          have XU := BoxC.lit TU.at_.tidy #[.slice AU L.length cU, .int .i64 (bytesN L x9.s), .int .i64 (x9.fa : Int)] 46
          have bbU : Below WU.heap.size WU (WU.alloc (.cells #[.slice AU L.length cU, .int .i64 (bytesN L x9.s), .int .i64 (x9.fa : Int)] 46)) := (Below.refl _ _).alloc (Nat.le_refl _) _
          have TV := TU.below HP bbU
          have uV := uU.below bbU
          have hbs := bytesC_all L x9.s L.length fun y hy => by rw [← hxl]; exact (hG9.sl y hy).1
          have hcap9 : ∀ c, c < L.length → ((liveN x9.s c : Nat) : Int) ≤ (L.getD c (0, 0)).2 := fun c hc => by have := hG9.cap (c := c) (by rw [hxl]; exact hc); rw [hxl] at this; exact this
          have hfew9 := hG9.few
          have HBS := Lib.hid hbs
          have HTV := Lib.hid TV
          have HXU := Lib.hid XU
          have HUV := Lib.hid uV
          clear hbU bbU uU XU TU TV T9 uV hbs hG9
          go_wp2
          obtain ⟨WV, hWV⟩ : ∃ WV, WV = WU.alloc (.cells #[.slice AU L.length cU, .int .i64 (bytesN L x9.s), .int .i64 (x9.fa : Int)] 46) := ⟨_, rfl⟩
          have TV := HTV.out
          have XU := HXU.out
          have uV := HUV.out
          rw [← hWV] at TV XU uV ⊢
          clear hWV HTV HXU HUV
          generalize WU.heap.size = bU at *
          go_loopw [16, 141] (fun b k wr => ∃ m : Nat, m ≤ L.length ∧ k = .int .i64 m ∧ b = .int .i64 (bytesC L x9.s m) ∧ Below WV.heap.size WV wr) (fun _ k _ => L.length - (intOf k).toNat)
          case atStart => exact ⟨0, Nat.zero_le _, rfl, rfl, Below.refl _ _⟩
          case round =>
            obtain ⟨m, hm, rfl, rfl, hbW⟩ := hrel
            have T2 := TV.below HP hbW
            by_cases hml : m < L.length
            · try (exfalso; omega)
              all_goals
                obtain ⟨bL, oL, z1, z2, hAL, hz, hzm, hbL, l0, l1⟩ := T2.cls.rd.atC hml
                first | subst hAL | (injection hAL with hAL; injection hAL with e1 e2; subst e1 e2)
                have hzb := hok _ hzm
                simp only at hzb
                have hmi : (m : Int) < (L.length : Int) := by omega
                have v0 := T2.row.own.cell (j := m) (i := 0) (liveL_at hml) rfl
                rw [show m * kI.k + 0 = m by simp [kI]] at v0
                have hBc := bytesC_bd (fun y hy => by have := hok y hy; omega) hfew9 m hm
                have hnext : bytesC L x9.s (m + 1) = bytesC L x9.s m + (liveN x9.s m : Int) * z1 := by
                  show bytesC L x9.s m + (liveN x9.s m : Int) * (L.getD m (0, 0)).1 = _
                  rw [getD_at hz]
                have hlv := liveN_le x9.s m
                have hmul0 : 0 ≤ (liveN x9.s m : Int) * z1 := Int.mul_nonneg (by omega) (by omega)
                have hmul1 : (liveN x9.s m : Int) * z1 ≤ 524288 * 4096 := Int.mul_le_mul (by omega) (by omega) (by omega) (by omega)
                have hw1 : IntKind.i64.wrap ((liveN x9.s m : Int) * z1) = (liveN x9.s m : Int) * z1 := by rw [IntKind.wrap_i64]; omega
                have hw2 : IntKind.i64.wrap (bytesC L x9.s m + (liveN x9.s m : Int) * z1) = bytesC L x9.s m + (liveN x9.s m : Int) * z1 := by rw [IntKind.wrap_i64]; omega
                have hle := hcap9 m hml
                rw [getD_at hz] at hle
                simp only at hle
                have hLN : (liveN x9.s m : Int) ≤ 524288 := by omega
                generalize hLV : liveN x9.s m = LV at *
                generalize hBY : bytesC L x9.s m = BY at *
                have HNX := Lib.hid hnext
                have HB := Lib.hid hbW
                clear hnext T2 TV hzm hz hLV hBY XU uV hbW hBc hlv
                go_wp2
                go_roundw
                case rel => exact ⟨m + 1, by omega, by go_num, by rw [HNX.out], HB.out⟩
                case measure => (simp [intOf] <;> omega)
            · have hmm : m = L.length := by omega
              have hmi : ¬ (m : Int) < (L.length : Int) := by omega
              have hby : bytesC L x9.s m = bytesN L x9.s := by rw [hmm]; exact HBS.out.symm
              have X2 := XU.below TV.at_.tidy hbW
              have u2 := uV.below hbW
              have rr := T2.row.own.reads
              have x0 := X2.cell 0 rfl
              have x1 := X2.cell 1 rfl
              rw [hby]
              have HT2 := Lib.hid T2
              clear T2 TV X2 XU uV hby hbW
              go_wp2_with fail
              refine (sameInts_any _ _ _ _ _ _ _ _ _ u2 rr).mono ?_
              rintro e W3 ⟨rfl, jd, rfl⟩
              rw [decide_eq_true rfl]
              have hbd := below_drewN (Below.refl wr.heap.size wr) jd
              have T3 := HT2.out.below HP hbd
              have x1' : (wr.drewN jd).cell? ⟨bU, 1, none⟩ = _ := x1
              have hbne : (bytesN L x9.s != bytesN L x9.s) = false := by simp
              have HT3 := Lib.hid T3
              clear HT2 u2 rr hbd T3
              go_wp2
              go_roundw
              case rel => exact ⟨i + 1, _, _, _, by omega, by omega, by go_num, HT3.out⟩
              case measure => (simp [intOf] <;> omega)
      · as_aux_lemma =>
          have HTT := Lib.hid T
          clear T
          rcases (show ¬ V = 0 ∨ (V = 0 ∧ hl.length = 0) by omega) with hV0 | ⟨rfl, hl0⟩
          focus
            have hV0' : ¬ (V : Int) = 0 := by omega
            go_wp2_with fail
          rotate_left
          focus
            have hlz : ¬ (0 : Int) < (hl.length : Int) := by omega
            clear hl0 hfree
            go_wp2_with fail
          all_goals
            refine (HP.alloc HTT.out.at_.pa HTT.out.at_.tidy (by omega) (1 + (Zz : Int)) hZ64).mono ?_
            rintro e W3 ⟨rfl, hd⟩
            obtain ⟨col3, A3, s3⟩ := HTT.out.at_.did (by omega) hd
            have hxs := good_t (x := x) (1 + (Zz : Int))
            have hrange := alloc_64 hG (1 + (Zz : Int)) (by omega)
            have hTk := took hG (1 + (Zz : Int))
            have hfl := alloc_fail (x := x) (z := 1 + (Zz : Int))
            have hGA := hG.alloc (1 + (Zz : Int))
            have hH := HTT.out.held
            have h64 := HTT.out.h64
            generalize hal : x.alloc (1 + (Zz : Int)) = al at *
            obtain ⟨⟨⟨g1, g2, g3⟩, er⟩, x3⟩ := al
            simp only at A3 hxs hrange hTk hfl hGA ⊢
            obtain ⟨A4, X4⟩ := A3.lit HP #[.int .i64 g1, .int .i64 g2, .int .i64 g3] 40
            have b4 : StepC (fun _ => False) col3 W3 col3 (W3.alloc (.cells #[.int .i64 g1, .int .i64 g2, .int .i64 g3] 40)) := StepC.alloc A3.tidy _
            have R4 := (HTT.out.row.keep s3 (fun h => n16' h)).keep b4 (fun h => h)
            have C4 := (HTT.out.cls.keep s3 (rng0 (by omega))).keep b4 (fun h => h)
            have Q4 := (HTT.out.q.keep s3 (fun h => n16 h)).keep b4 (fun h => h)
            clear A3 s3 hd HTT hal b4
            by_cases her : er = 0
            focus
              subst her
              obtain ⟨j, y, Tk⟩ := hTk rfl
              have hHN := hH.took hGA Tk
              have hlt := live_took (n := L.length) Tk
              have hfit := fit_lt Tk.fit
              have hfle : (1 + (Zz : Int)) ≤ (L.getD y.c (0, 0)).1 := by
                have h1 := Tk.fit
                rw [hxL] at h1
                unfold fitP at h1
                split at h1
                · exact fitI_le h1
                · cases h1
              rw [hxL] at hfit
              obtain ⟨b1, _, _⟩ := h_eq Tk.h
              simp only at b1
              subst b1
              have hxl3 := Tk.l
              rw [hxL] at hxl3
              have hlv := liveN_le x.s y.c
              have hfew := hG.few
              generalize hyc : y.c = c at *
              obtain ⟨bL, oL, z1, z2, hAL, hz, hzm, hbL, l0, l1⟩ := C4.rd.atC hfit
              first | subst hAL | (injection hAL with hAL; injection hAL with e1 e2; subst e1 e2)
              rw [getD_at hz] at hfle
              simp only at hfle
              have hzb := hok _ hzm
              simp only at hzb
              have hcc : (c : Int) < (L.length : Int) := by omega
              have hcc2 : ¬ (L.length : Int) ≤ (c : Int) := by omega
              have hc0 : ¬ (c : Int) < 0 := by omega
              have hzz : ¬ z1 < 1 + (Zz : Int) := by omega
              have hwz : IntKind.i64.wrap (1 + (Zz : Int)) = 1 + (Zz : Int) := by rw [IntKind.wrap_i64]; omega
              have x0 : (W3.alloc (.cells #[.int .i64 (c : Int), .int .i64 g2, .int .i64 g3] 40)).cell? ⟨W3.heap.size, 0, none⟩ = some (.int .i64 (c : Int)) := X4.cell 0 rfl
              have x1 : (W3.alloc (.cells #[.int .i64 (c : Int), .int .i64 g2, .int .i64 g3] 40)).cell? ⟨W3.heap.size, 1, none⟩ = some (.int .i64 g2) := X4.cell 1 rfl
              have x2 : (W3.alloc (.cells #[.int .i64 (c : Int), .int .i64 g2, .int .i64 g3] 40)).cell? ⟨W3.heap.size, 2, none⟩ = some (.int .i64 g3) := X4.cell 2 rfl
              have cS4 : (W3.alloc (.cells #[.int .i64 (c : Int), .int .i64 g2, .int .i64 g3] 40)).cell? ⟨bB, oB + i, none⟩ = some (.int .i64 s) := (A4.since.below.cell (World.block_lt_of_cell? _ _ HcS.out)).trans HcS.out
              have HA4 := Lib.hid A4
              have HR4 := Lib.hid R4
              have HC4 := Lib.hid C4
              have HQ4 := Lib.hid Q4
              have HX4 := Lib.hid X4
              clear hTk hfl hH hGA hG Tk l1 hz hzm A4 R4 C4 Q4 X4
              go_wp2
              go_quiet (fail)
              have hbb := below_drewN (Below.refl (W3.alloc (.cells #[.int .i64 (c : Int), .int .i64 g2, .int .i64 g3] 40)).heap.size (W3.alloc (.cells #[.int .i64 (c : Int), .int .i64 g2, .int .i64 g3] 40))) nq
              have A5 := HA4.out.below HP hbb
              have s5 : StepC (fun _ => False) col3 (W3.alloc (.cells #[.int .i64 (c : Int), .int .i64 g2, .int .i64 g3] 40)) col3 ((W3.alloc (.cells #[.int .i64 (c : Int), .int .i64 g2, .int .i64 g3] 40)).drewN nq) := StepC.below HA4.out.tidy hbb
              have R5 := HR4.out.keep s5 (fun h => h)
              have C5 := HC4.out.keep s5 (fun h => h)
              have Q5 := HQ4.out.keep s5 (fun h => h)
              have X5 := HX4.out.keep s5 (fun h => h)
              obtain ⟨W5, hW5⟩ : ∃ W5, W5 = (W3.alloc (.cells #[.int .i64 (c : Int), .int .i64 g2, .int .i64 g3] 40)).drewN nq := ⟨_, rfl⟩
              rw [← hW5] at A5 R5 C5 Q5 X5 ⊢
              clear s5 hbb hW5 HA4 HR4 HC4 HQ4 HX4 x0 x1 x2 cS4 l0
              have hXlt : W3.heap.size < W5.heap.size := by have := X5.lt; exact this
              generalize W3.heap.size = bX at *
              have hat := liveL_at (s := x.s) hfit
              have v0 := R5.own.cell (j := c) (i := 0) hat rfl
              have vf := R5.own.free c
              rw [show c * kI.k + 0 = c by simp [kI]] at v0
              have r6 := R5.own.store hat (i := 0) (a' := (liveN x.s c : Int) + 1) (u := .int .i64 ((liveN x.s c : Int) + 1)) K_one rfl
              rw [show c * kI.k + 0 = c by simp [kI], ← hlt] at r6
              have hcb : col3 bl = 2 := R5.col bl rfl
              have s6 : StepC (fun c => c = 2) col3 W5 col3 (W5.setCell ⟨bl, c, none⟩ (.int .i64 ((liveN x.s c : Int) + 1))) := StepC.set A5.tidy hcb _
              have A6 : AtP PA w col3 (W5.setCell ⟨bl, c, none⟩ (.int .i64 ((liveN x.s c : Int) + 1))) 16 ga x3 := ⟨A5.since.step s6 (by omega), HP.keep A5.pa s6 (fun c h e => by have := h.1; omega) (by omega)⟩
              have C6 := C5.keep s6 (by omega)
              have Q6 := Q5.keep s6 (by omega)
              have X6 := X5.keep s6 (by omega)
              have R6 : OwnKc kI col3 (W5.setCell ⟨bl, c, none⟩ (.int .i64 ((liveN x.s c : Int) + 1))) 2 (.slice (some ⟨bl, 0, none⟩) L.length L.length) (liveL L.length x3.s) := ⟨r6, R5.col⟩
              have y0 := X5.cell 0 rfl
              have x0 : (W5.setCell ⟨bl, c, none⟩ (.int .i64 ((liveN x.s c : Int) + 1))).cell? ⟨bX, 0, none⟩ = some (.int .i64 (c : Int)) := X6.cell 0 rfl
              have x1 : (W5.setCell ⟨bl, c, none⟩ (.int .i64 ((liveN x.s c : Int) + 1))).cell? ⟨bX, 1, none⟩ = some (.int .i64 g2) := X6.cell 1 rfl
              have x2 : (W5.setCell ⟨bl, c, none⟩ (.int .i64 ((liveN x.s c : Int) + 1))).cell? ⟨bX, 2, none⟩ = some (.int .i64 g3) := X6.cell 2 rfl
              have b7 : StepC (fun _ => False) col3 (W5.setCell ⟨bl, c, none⟩ (.int .i64 ((liveN x.s c : Int) + 1))) col3 ((W5.setCell ⟨bl, c, none⟩ (.int .i64 ((liveN x.s c : Int) + 1))).alloc (.cells #[.int .i64 (c : Int), .int .i64 g2, .int .i64 g3] 40)) := StepC.alloc A6.tidy _
              have A7 : AtP PA w col3 ((W5.setCell ⟨bl, c, none⟩ (.int .i64 ((liveN x.s c : Int) + 1))).alloc (.cells #[.int .i64 (c : Int), .int .i64 g2, .int .i64 g3] 40)) 16 ga x3 := A6.alloc HP _
              have C7 := C6.keep b7 (fun h => h)
              have Q7 := Q6.keep b7 (fun h => h)
              have R7 := R6.keep b7 (fun h => h)
              have D7 : RdG kH ((W5.setCell ⟨bl, c, none⟩ (.int .i64 ((liveN x.s c : Int) + 1))).alloc (.cells #[.int .i64 (c : Int), .int .i64 g2, .int .i64 g3] 40)) (some ⟨W5.heap.size, 0, none⟩) 1 1 [(((c : Int), g2, g3) : Hd)] := RdG.one' kH (by simp [World.setCell]) (((c : Int), g2, g3) : Hd)
              have hby : hl.length + 1 ≤ 1000000000 := by omega
              have hlH : (hl ++ [(((c : Int), g2, g3) : Hd)]).length = hl.length + 1 := by simp
              have oQ := Q7.own
              have HA7 := Lib.hid A7
              have HC7 := Lib.hid C7
              have HQ7 := Lib.hid Q7
              have HR7 := Lib.hid R7
              generalize liveN x.s c = LV at *
              clear A5 A6 A7 C5 C6 C7 Q5 Q6 Q7 R5 R6 R7 X5 X6 s6 b7 r6 hat hlt
              go_wp2_with (at_builtin; refine wpList_appQ kH rfl (.tmp 133) (.tmp 135) rfl (.slice AH hl.length cH) hl rfl _ 1 1 [(((c : Int), g2, g3) : Hd)] rfl oQ D7 hby ?_; intro v9 W9 O9 G9 hat9; obtain ⟨A9, c9, rfl, _⟩ := O9.form hlH)
              have s9 := StepC.appQ (P := fun c => c = 1) HA7.out.tidy G9 HQ7.out.col rfl hat9 O9.lt
              have T9 : CtR PA w ga bl (i + 1) L (some ⟨bL, oL, none⟩) c1 _ x3 (hl ++ [(((c : Int), g2, g3) : Hd)]) (.slice A9 (hl.length + 1) c9) W9 := ⟨⟨HA7.out.since.step s9 (by omega), HP.keep HA7.out.pa s9 (fun c hc h1 => by have := hc.1; omega) (by omega)⟩, HC7.out.keep s9 (by omega), HR7.out.keep s9 (by omega), OwnQc.mk' O9, hHN, fun h hx => by
                rcases List.mem_append.1 hx with hx | hx
                · exact h64 h hx
                · rw [List.mem_singleton.1 hx]; exact hrange, by rw [hlH]; omega, by omega, hxl3⟩
              clear s9 HA7 HC7 HQ7 HR7 O9 G9 hat9 oQ D7 x0 x1 x2 y0 v0 vf hcb hHN
            rotate_left
            focus
              have T9 : CtR PA w ga bl (i + 1) L A1 c1 col3 x3 hl (.slice AH hl.length cH) (W3.alloc (.cells #[.int .i64 g1, .int .i64 g2, .int .i64 g3] 40)) := ⟨A4, C4, by rw [hfl her]; exact R4, Q4, by rw [hfl her]; exact hH.tick, h64, by omega, by omega, by rw [hfl her]; exact hxL⟩
              have hlv : True := trivial
              clear hfl hTk hH A4 C4 R4 Q4 X4 hGA hG
              go_wp2_with fail
              obtain ⟨W5, hW5⟩ : ∃ W5, W5 = W3.alloc (.cells #[.int .i64 g1, .int .i64 g2, .int .i64 g3] 40) := ⟨_, rfl⟩
              rw [← hW5] at T9 ⊢
              clear hW5
            all_goals
              have hxl := T9.xl
              have hG9 := HP.good T9.at_.pa
              refine (HP.usage T9.at_.pa T9.at_.tidy (by have := T9.t; omega)).mono ?_
              rintro e WU ⟨AU, cU, rfl, uU, hbU⟩
              have TU := (T9.below HP hbU)
              rw [hxl] at uU ⊢
              have XU := BoxC.lit TU.at_.tidy #[.slice AU L.length cU, .int .i64 (bytesN L x3.s), .int .i64 (x3.fa : Int)] 46
              have bbU : Below WU.heap.size WU (WU.alloc (.cells #[.slice AU L.length cU, .int .i64 (bytesN L x3.s), .int .i64 (x3.fa : Int)] 46)) := (Below.refl _ _).alloc (Nat.le_refl _) _
              have TV := TU.below HP bbU
              have uV := uU.below bbU
              have hbs := bytesC_all L x3.s L.length fun y hy => by rw [← hxl]; exact (hG9.sl y hy).1
              have hcap9 : ∀ c, c < L.length → ((liveN x3.s c : Nat) : Int) ≤ (L.getD c (0, 0)).2 := fun c hc => by have := hG9.cap (c := c) (by rw [hxl]; exact hc); rw [hxl] at this; exact this
              have hfew9 := hG9.few
              have HBS := Lib.hid hbs
              have HTV := Lib.hid TV
              have HXU := Lib.hid XU
              have HUV := Lib.hid uV
              clear hbU bbU uU XU TU TV T9 uV hbs hG9
              go_wp2
              obtain ⟨WV, hWV⟩ : ∃ WV, WV = WU.alloc (.cells #[.slice AU L.length cU, .int .i64 (bytesN L x3.s), .int .i64 (x3.fa : Int)] 46) := ⟨_, rfl⟩
              have TV := HTV.out
              have XU := HXU.out
              have uV := HUV.out
              rw [← hWV] at TV XU uV ⊢
              clear hWV HTV HXU HUV
              generalize WU.heap.size = bU at *
              go_loopw [16, 141] (fun b k wr => ∃ m : Nat, m ≤ L.length ∧ k = .int .i64 m ∧ b = .int .i64 (bytesC L x3.s m) ∧ Below WV.heap.size WV wr) (fun _ k _ => L.length - (intOf k).toNat)
              case atStart => exact ⟨0, Nat.zero_le _, rfl, rfl, Below.refl _ _⟩
              case round =>
                obtain ⟨m, hm, rfl, rfl, hbW⟩ := hrel
                have T2 := TV.below HP hbW
                by_cases hml : m < L.length
                · try (exfalso; omega)
                  all_goals
                    obtain ⟨bL, oL, z1, z2, hAL, hz, hzm, hbL, l0, l1⟩ := T2.cls.rd.atC hml
                    first | subst hAL | (injection hAL with hAL; injection hAL with e1 e2; subst e1 e2)
                    have hzb := hok _ hzm
                    simp only at hzb
                    have hmi : (m : Int) < (L.length : Int) := by omega
                    have v0 := T2.row.own.cell (j := m) (i := 0) (liveL_at hml) rfl
                    rw [show m * kI.k + 0 = m by simp [kI]] at v0
                    have hBc := bytesC_bd (fun y hy => by have := hok y hy; omega) hfew9 m hm
                    have hnext : bytesC L x3.s (m + 1) = bytesC L x3.s m + (liveN x3.s m : Int) * z1 := by
                      show bytesC L x3.s m + (liveN x3.s m : Int) * (L.getD m (0, 0)).1 = _
                      rw [getD_at hz]
                    have hlv := liveN_le x3.s m
                    have hmul0 : 0 ≤ (liveN x3.s m : Int) * z1 := Int.mul_nonneg (by omega) (by omega)
                    have hmul1 : (liveN x3.s m : Int) * z1 ≤ 524288 * 4096 := Int.mul_le_mul (by omega) (by omega) (by omega) (by omega)
                    have hw1 : IntKind.i64.wrap ((liveN x3.s m : Int) * z1) = (liveN x3.s m : Int) * z1 := by rw [IntKind.wrap_i64]; omega
                    have hw2 : IntKind.i64.wrap (bytesC L x3.s m + (liveN x3.s m : Int) * z1) = bytesC L x3.s m + (liveN x3.s m : Int) * z1 := by rw [IntKind.wrap_i64]; omega
                    have hle := hcap9 m hml
                    rw [getD_at hz] at hle
                    simp only at hle
                    have hLN : (liveN x3.s m : Int) ≤ 524288 := by omega
                    generalize hLV : liveN x3.s m = LV at *
                    generalize hBY : bytesC L x3.s m = BY at *
                    have HNX := Lib.hid hnext
                    have HB := Lib.hid hbW
                    clear hnext T2 TV hzm hz hLV hBY XU uV hbW hBc hlv
                    go_wp2
                    go_roundw
                    case rel => exact ⟨m + 1, by omega, by go_num, by rw [HNX.out], HB.out⟩
                    case measure => (simp [intOf] <;> omega)
                · have hmm : m = L.length := by omega
                  have hmi : ¬ (m : Int) < (L.length : Int) := by omega
                  have hby : bytesC L x3.s m = bytesN L x3.s := by rw [hmm]; exact HBS.out.symm
                  have X2 := XU.below TV.at_.tidy hbW
                  have u2 := uV.below hbW
                  have rr := T2.row.own.reads
                  have x0 := X2.cell 0 rfl
                  have x1 := X2.cell 1 rfl
                  rw [hby]
                  have HT2 := Lib.hid T2
                  clear T2 TV X2 XU uV hby hbW
                  go_wp2_with fail
                  refine (sameInts_any _ _ _ _ _ _ _ _ _ u2 rr).mono ?_
                  rintro e W3 ⟨rfl, jd, rfl⟩
                  rw [decide_eq_true rfl]
                  have hbd := below_drewN (Below.refl wr.heap.size wr) jd
                  have T3 := HT2.out.below HP hbd
                  have x1' : (wr.drewN jd).cell? ⟨bU, 1, none⟩ = _ := x1
                  have hbne : (bytesN L x3.s != bytesN L x3.s) = false := by simp
                  have HT3 := Lib.hid T3
                  clear HT2 u2 rr hbd T3
                  go_wp2
                  go_roundw
                  case rel => exact ⟨i + 1, _, _, _, by omega, by omega, by go_num, HT3.out⟩
                  case measure => (simp [intOf] <;> omega)
    · rcases (show (i < p ∧ i = 60) ∨ ¬ i < p by omega) with ⟨hp, rfl⟩ | hp
      focus
        have hpi : ((60 : Nat) : Int) < (p : Int) := by omega
        have hb := T.at_.since.below
        clear T
        go_wp2_with fail
      rotate_left
      focus
        have hpi : ¬ (i : Int) < (p : Int) := by omega
        have hb := T.at_.since.below
        clear T
        go_wp2_with fail
      all_goals
        refine (awake_any HP _).mono ?_
        rintro e w4 ⟨rfl, hb4⟩
        go_wp2
        go_ret
        exact ⟨rfl, hb.trans (hb4.mono hb.size)⟩
end Go.Proofs.Ytfcnmbahcdpcaaa
