/- The specified pool in memory: Intern. Conditions: none beyond those typed. -/
import Derived.Test.YtenchaifnfgijaaQrset
import Derived.Deep.RegionHeld3
import Derived.Deep.CutRange
import Derived.BigRegion
namespace Go.Proofs.Ytenchaifnfgijaa
open Go.ChangeShapes Go.WideShapes Go.ChangeAt Go.RowKit
set_option linter.unusedVariables false
set_option linter.unusedSimpArgs false
set_option maxRecDepth 100000

section
variable {P : Nat → Prop} {col col' : Col} {w w' : World} {k ka g ga : Nat} {q : PSt} {x : ASt} {bK cK bU cU bH cH : Nat} {s : ByteArray}
/-- The least number is found. -/
theorem slotNo_at {e : List PEn} {j : Nat} {y : PEn} (hj : j ≤ slotNo e) (hy : e[j]? = some y) : (0 < y.u → j + 1 ≤ slotNo e) ∧ (¬ 0 < y.u → j = slotNo e) := by
  refine ⟨fun h => ?_, fun h => ?_⟩
  · rcases Nat.lt_or_ge j (slotNo e) with h1 | h1
    · exact h1
    · obtain rfl : j = slotNo e := by omega
      obtain ⟨z, hz, hu⟩ := slotNo_dead (List.getElem?_eq_some_iff.1 hy).1
      rw [hy] at hz; injection hz with hz; subst hz; omega
  · rcases Nat.lt_or_ge j (slotNo e) with h1 | h1
    · exact absurd (slotNo_before h1 hy) h
    · omega
set_option maxHeartbeats 2000000 in
theorem rqIntern (H : RefQ col k w g ga q) (HA : RefA col ka w ga x) (hap : Apart k ka) (ht : Tidy col w) (hlt : x.t ≤ 1000000000) (hqt : q.t ≤ 1000000000) (s : ByteArray) (hs : s.size ≤ 9223372036854775807) :
    Calls Try.prog 21 #[.pointer (some ⟨g, 0, none⟩), .string s] w fun e w' => e = .returned (.tuple #[.int .i64 (q.intern x s).1.1, .int .i64 (q.intern x s).1.2]) ∧ DidRQ col k ka w g ga (q.intern x s).2 (q.inR x s) w' := by
  have HR := H
  obtain ⟨hG, bK, cK, bU, cU, bH, cH, H⟩ := H
  have hGF := hG.intern x s
  have hlen := hG.len
  have hn8 := hG.n8
  have quiet : ∀ w', Below w.heap.size w w' → DidRQ col k ka w g ga q.tick x w' := fun w' hb => ⟨col, ⟨hG.tick, _, _, _, _, _, _, (H.below ht hb).time _⟩, HA.below' ht hb, StepC.below ht hb⟩
  rcases asks_ways q s with h1 | h1 | ⟨h1, h2, i, hf⟩ | ⟨h1, h2, hf, h3⟩ | ha
  · have E1 := Lib.hid (intern_empty (q := q) h1 x)
    have E2 := Lib.hid (inR_not (q := q) (s := s) (fun e => e.1 h1) x)
    have hem := (ba_empty h1).1
    have HQ := Lib.hid quiet
    clear H hGF quiet
    go_enter Try.func21, Try.ntmps21
    go_wp2
    go_ret2
    rw [E1.out, E2.out]
    exact ⟨rfl, HQ.out w (Below.refl _ _)⟩
  · have E1 := Lib.hid (intern_long (q := q) h1 x)
    have E2 := Lib.hid (inR_not (q := q) (s := s) (fun e => e.2.1 h1) x)
    have hem := ba_some (s := s) (by omega)
    have h2 : (255 : Int) < (s.size : Int) := by omega
    have HQ := Lib.hid quiet
    clear H hGF quiet
    go_enter Try.func21, Try.ntmps21
    go_wp2
    go_ret2
    rw [E1.out, E2.out]
    exact ⟨rfl, HQ.out w (Below.refl _ _)⟩
  · have E1 := Lib.hid (intern_old (q := q) h1 h2 hf x)
    have E2 := Lib.hid (inR_not (q := q) (s := s) (fun e => by rw [e.2.2.1] at hf; cases hf) x)
    have hem := ba_some (s := s) (by omega)
    have h3 : ¬ (255 : Int) < (s.size : Int) := by omega
    obtain ⟨y, hy, hu, hk, hi⟩ := find_at hf
    have HL := Lib.hid (show q.look s = (((i + 1 : Nat) : Int), ((y.u : Nat) : Int)) by unfold PSt.look; rw [hf]; simp [hy])
    have hup := hG.ut y (List.mem_of_getElem? hy)
    clear quiet
    rw [E1.out] at hGF ⊢
    rw [E2.out]
    obtain ⟨j, hj⟩ : ∃ j : Nat, i + 1 = j := ⟨_, rfl⟩
    obtain ⟨N, hN⟩ : ∃ N : Nat, q.e.length + 1 = N := ⟨_, rfl⟩
    have hji : (i : Int) + 1 = (j : Int) := by omega
    simp only [hj]
    have h4 : (j : Int) < (N : Int) := by omega
    have h5 : (0 : Int) < (j : Int) := by omega
    go_enter Try.func21, Try.ntmps21
    go_wp2_with fail
    refine (rqFind HR ht s).mono ?_
    rintro e w1 ⟨rfl, hb1⟩
    rw [HL.out, hj]
    have H1 := H.below ht hb1
    have ht1 := ht.size hb1.size
    have S1 := StepC.below (P := Rng k) ht hb1
    have x3 := H1.c3
    have y3 := H1.cu hy
    have f3 := H1.us.own.free (i + 1)
    obtain ⟨⟨q1, q2⟩, ⟨q3, q4⟩, _⟩ := H1.caps
    rw [hN] at x3 q3
    rw [hj] at y3 f3
    obtain ⟨u, hu2⟩ : ∃ u : Int, (y.u : Int) = u := ⟨_, rfl⟩
    have hb2 : -9223372036854775808 ≤ u + 1 := by omega
    have hb3 : u + 1 ≤ 9223372036854775807 := by omega
    obtain ⟨H2, S2⟩ := H1.setU ht1 hy (f := PEn.up) (fun _ => rfl) (fun _ => rfl) (z := u + 1) (by simp only [PEn.up]; omega) (q.t + 1)
    rw [hj] at H2 S2
    rw [hu2] at y3 ⊢
    have HA2 := (HA.below' ht hb1).keep S2 (fun c h1 h2 => hap.no c h2 h1) hap.z1
    have HH2 := Lib.hid H2
    clear H H1 H2 hy hk hf hu hi hup HR hu2 hlen hji hj hN
    go_wp2
    go_ret2
    exact ⟨rfl, col, ⟨hGF, _, _, _, _, _, _, HH2.out⟩, HA2, (S1.trans S2).mono rng_l⟩
  · have E1 := Lib.hid (intern_most (q := q) h1 h2 hf h3 x)
    have E2 := Lib.hid (inR_not (q := q) (s := s) (fun e => e.2.2.2 h3) x)
    have hem := ba_some (s := s) (by omega)
    have h4 : ¬ (255 : Int) < (s.size : Int) := by omega
    have HL := Lib.hid (show q.look s = (0, 0) by unfold PSt.look; rw [hf])
    have HQ := Lib.hid quiet
    clear quiet
    rw [E1.out, E2.out]
    go_enter Try.func21, Try.ntmps21
    go_wp2_with fail
    refine (rqFind HR ht s).mono ?_
    rintro e w1 ⟨rfl, hb1⟩
    rw [HL.out]
    have ht1 := ht.size hb1.size
    have HR1 := HR.keep (P := fun _ => False) (StepC.below ht hb1) (fun _ _ h => h)
    have x1 := (H.below ht hb1).c1
    clear H hf HR hlen
    have hH := (HR1.keep (P := fun _ => False) (StepC.drew ht1) (fun _ _ h => h))
    go_wp2
    go_region_held3 (fun w' => w'.cell? ⟨g, 1, none⟩ = some (.int .i64 q.n)) (first | exact x1 | exact c_keep x1 hb3)
      (first | (go_at_call 25; refine (rqLen hH ht1).mono ?_; rintro e3 w3 ⟨rfl, hb3'⟩; have hb3 : Below w1.heap.size w1 w3 := below_from hb3'))
    all_goals
      go_wp2
      go_ret2
      exact ⟨rfl, HQ.out _ (below_then hb1 hb3)⟩
  · have hem := ba_some (s := s) (by have := ha.1; omega)
    have h4 : ¬ (255 : Int) < (s.size : Int) := by have := ha.2.1; omega
    have HL := Lib.hid (show q.look s = (0, 0) by unfold PSt.look; rw [ha.2.2.1])
    have h3 : ((aliveN q.e : Nat) : Int) ≠ (q.n : Int) := by have := ha.2.2.2; omega
    have E2 := Lib.hid (inR_is ha x)
    rw [E2.out]
    have HH := Lib.hid (show Hid (GoodQ (q.intern x s).2) from Lib.hid hGF)
    clear quiet hGF
    go_enter Try.func21, Try.ntmps21
    go_wp2_with fail
    refine (rqFind HR ht s).mono ?_
    rintro e w1 ⟨rfl, hb1⟩
    rw [HL.out]
    have ht1 := ht.size hb1.size
    have HR1 := HR.keep (P := fun _ => False) (StepC.below ht hb1) (fun _ _ h => h)
    have x1 := (H.below ht hb1).c1
    have hH := (HR1.keep (P := fun _ => False) (StepC.drew ht1) (fun _ _ h => h))
    have hv : ((aliveN q.e : Int) == (q.n : Int)) = false := by rw [beq_eq_false_iff_ne]; exact h3
    go_wp2
    go_region_held3 (fun w' => w'.cell? ⟨g, 1, none⟩ = some (.int .i64 q.n)) (first | exact x1 | exact c_keep x1 hb3)
      (first | (go_at_call 25; refine (rqLen hH ht1).mono ?_; rintro e3 w3 ⟨rfl, hb3'⟩; have hb3 : Below w1.heap.size w1 w3 := below_from hb3'))
    all_goals
      clear x1 hH HR1
      have hb := below_then hb1 hb3
      have H3 := H.below ht hb
      have HA3 := HA.below' ht hb
      have ht3 := ht.size hb.size
      have S3 := StepC.below (P := Rng ka) ht hb
      have x0 := H3.c0
      clear hb1 hb3 ht1 hb H HA
      go_wp2_with fail
      refine (arAlloc HA3 ht3 (s.size : Int) ⟨by omega, by omega⟩ hlt).mono ?_
      rintro e w4 ⟨rfl, col4, HA4, S4'⟩
      have S4 := S3.trans S4'
      have H4 := H3.keep S4' hap.no
      have ht4 := S4.tidy
      clear S4' H3 HA3 ht3 S3 x0
      by_cases h0 : (x.alloc s.size).1.2 = 0
      · have E1 := Lib.hid (intern_new ha h0)
        rw [h0]
        have hb5 : Below w4.heap.size w4 (w4.alloc (.cells #[.int .i64 (x.alloc s.size).1.1.1, .int .i64 (x.alloc s.size).1.1.2.1, .int .i64 (x.alloc s.size).1.1.2.2] 81)) := (Below.refl _ _).alloc (Nat.le_refl _) _
        have H5 := H4.below ht4 hb5
        have HA5 := HA4.below' ht4 hb5
        have S5 := S4.trans (StepC.below ht4 hb5)
        have ht5 := S5.tidy
        have B5 := BoxC.lit ht4 #[.int .i64 (x.alloc s.size).1.1.1, .int .i64 (x.alloc s.size).1.1.2.1, .int .i64 (x.alloc s.size).1.1.2.2] 81
        go_wp2
        obtain ⟨W5, hW5⟩ : ∃ W5, W5 = w4.alloc (.cells #[.int .i64 (x.alloc s.size).1.1.1, .int .i64 (x.alloc s.size).1.1.2.1, .int .i64 (x.alloc s.size).1.1.2.2] 81) := ⟨_, rfl⟩
        rw [← hW5] at H5 HA5 S5 ht5 B5 ⊢
        clear hW5 hb5 H4 HA4 S4 ht4
        obtain ⟨⟨q1, q2⟩, ⟨q3, q4⟩, ⟨q5, q6⟩⟩ := H5.caps
        obtain ⟨N, hN⟩ : ∃ N : Nat, q.e.length + 1 = N := ⟨_, rfl⟩
        have HH5 := Lib.hid H5
        have HS := Lib.hid h0
        generalize hhd : (x.alloc s.size).1.1 = hd at *
        clear hv h0 h3 HL H5
        go_loopw [10] (fun i wr => ∃ j : Nat, j ≤ slotNo q.e ∧ i = .int .i64 ((j + 1 : Nat) : Int) ∧ wr = W5) (fun i _ => q.e.length + 1 - (intOf i).toNat)
        case atStart => exact ⟨0, Nat.zero_le _, rfl, rfl⟩
        case round =>
          obtain ⟨j, hj, rfl, hwr⟩ := hrel
          subst hwr
          have x2 := HH5.out.c2
          have x3 := HH5.out.c3
          have x4 := HH5.out.c4
          have hsl := slotNo_le q.e
          have hj8 : (j : Int) ≤ 8192 := by omega
          have hw : IntKind.i64.wrap ((j : Int) + 1) = (j : Int) + 1 := by rw [IntKind.wrap_i64]; omega
          by_cases hlt2 : j < q.e.length
          · obtain ⟨y, hy⟩ : ∃ y, q.e[j]? = some y := ⟨_, List.getElem?_eq_getElem hlt2⟩
            have y3 := HH5.out.cu hy
            have hup := hG.ut y (List.mem_of_getElem? hy)
            obtain ⟨sl1, sl2⟩ := slotNo_at hj hy
            have hlt3 : (j : Int) + 1 < (q.e.length : Int) + 1 := by omega
            by_cases hu : 0 < y.u
            · have hj2 := sl1 hu
              have hu2 : (0 : Int) < (y.u : Int) := by omega
              clear hy sl1 sl2
              go_wp2
              go_roundw
              case rel => exact ⟨j + 1, hj2, by go_num, by first | rfl | trivial⟩
              case measure => (simp [intOf] <;> omega)
            · have hj2 := Lib.hid (sl2 hu)
              have hu2 : ¬ (0 : Int) < (y.u : Int) := by omega
              have hv5 : ((j : Int) + 1 == (q.e.length : Int) + 1) = false := by rw [beq_eq_false_iff_ne]; omega
              clear sl1 sl2 hu hup
              go_wp2
              have HX := HH5.out.below ht5 (Below.refl _ _).drew
              have htx : Tidy col4 wr.drew := ht5.size (Below.refl wr.heap.size wr).drew.size
              have BX := B5.keep (P := fun _ => False) (StepC.drew ht5) (fun h => h)
              have HAX := HA5.below' ht5 (Below.refl _ _).drew
              have SX : StepC (fun c => Rng k c ∨ Rng ka c) col w col4 wr.drew := (S5.trans (StepC.drew ht5)).mono rng_r
              have hnx := hN
              have hix : j < q.e.length := hlt2
              have hjN : (j : Int) + 1 < (N : Int) := by omega
              have hjN2 : j + 1 < N := by omega
              have hjnn : ¬ (j : Int) + 1 < 0 := by omega
              generalize w4.heap.size = bX at *
              refine wp_region_noPanic ?_
              refine wp_region_late (fun w' => w'.cell? ⟨g, 2, none⟩ = some (.slice (some ⟨bK, 0, none⟩) (N) cK) ∧ w'.cell? ⟨g, 3, none⟩ = some (.slice (some ⟨bU, 0, none⟩) (N) cU) ∧ w'.cell? ⟨g, 4, none⟩ = some (.slice (some ⟨bH, 0, none⟩) (N) cH) ∧ w'.cell? ⟨bX, 0, none⟩ = some (.int .i64 hd.1) ∧ w'.cell? ⟨bX, 1, none⟩ = some (.int .i64 hd.2.1) ∧ w'.cell? ⟨bX, 2, none⟩ = some (.int .i64 hd.2.2)) (fun j => [0, 1, 2, 4, 5, 6, 7, 9, 10, 11, 12, 14, 15, 22].contains j) (by kernel_rfl) ?_
              intro u0 hu0
              rw [hu0] at HX htx BX HAX SX
              have hS : (fun w' => w'.cell? ⟨g, 2, none⟩ = some (.slice (some ⟨bK, 0, none⟩) (N) cK) ∧ w'.cell? ⟨g, 3, none⟩ = some (.slice (some ⟨bU, 0, none⟩) (N) cU) ∧ w'.cell? ⟨g, 4, none⟩ = some (.slice (some ⟨bH, 0, none⟩) (N) cH) ∧ w'.cell? ⟨bX, 0, none⟩ = some (.int .i64 hd.1) ∧ w'.cell? ⟨bX, 1, none⟩ = some (.int .i64 hd.2.1) ∧ w'.cell? ⟨bX, 2, none⟩ = some (.int .i64 hd.2.2)) u0 := by have := HX.s0 BX; rw [hnx] at this; exact this
              have fK := HX.ks.own.free (j + 1)
              have fU := HX.us.own.free (j + 1)
              have fH := HX.hs.own.free ((j + 1) * 3)
              have fH1 := HX.hs.own.free ((j + 1) * 3 + 1)
              have fH2 := HX.hs.own.free ((j + 1) * 3 + 2)
              obtain ⟨a1, a2, a3, a4, a5, o1, o2, o3, o4, o5⟩ := HX.old htx hix (.string s) (.int .i64 1)
              clear hu0
              try clear x2 x3 x4
              refine wpAnyL_takeY 0 _ (.pointer (some ⟨g, 0, none⟩)) rfl (by kernel_rfl) (by kernel_rfl) (by kernel_rfl) (by kernel_rfl) (fun _ _ _ h => h) (Or.inl ⟨by rfl, ?_⟩) ?_
              · intro w'; go_simp
              simp only [Act.put, List.setIfInBounds_toArray, List.set_cons_zero, List.set_cons_succ]
              refine wpAnyL_takeY 1 _ (.pointer (some ⟨g, 0, none⟩)) rfl (by kernel_rfl) (by kernel_rfl) (by kernel_rfl) (by kernel_rfl) (fun _ _ _ h => h) (Or.inl ⟨by rfl, ?_⟩) ?_
              · intro w'; go_simp
              simp only [Act.put, List.setIfInBounds_toArray, List.set_cons_zero, List.set_cons_succ]
              refine wpAnyL_takeY 2 _ (.pointer (some ⟨g, 2, none⟩)) rfl (by kernel_rfl) (by kernel_rfl) (by kernel_rfl) (by kernel_rfl) (fun _ _ _ h => h) (Or.inl ⟨by rfl, ?_⟩) ?_
              · intro w'; go_simp
              simp only [Act.put, List.setIfInBounds_toArray, List.set_cons_zero, List.set_cons_succ]
              refine wpAnyL_takeY 4 _ (.int .i64 ((j : Int) + 1)) rfl (by kernel_rfl) (by kernel_rfl) (by kernel_rfl) (by kernel_rfl) (fun _ _ _ h => h) (Or.inl ⟨by rfl, ?_⟩) ?_
              · intro w'; go_simp
              simp only [Act.put, List.setIfInBounds_toArray, List.set_cons_zero, List.set_cons_succ]
              refine wpAnyL_takeY 5 _ (.pointer (some ⟨g, 0, none⟩)) rfl (by kernel_rfl) (by kernel_rfl) (by kernel_rfl) (by kernel_rfl) (fun _ _ _ h => h) (Or.inl ⟨by rfl, ?_⟩) ?_
              · intro w'; go_simp
              simp only [Act.put, List.setIfInBounds_toArray, List.set_cons_zero, List.set_cons_succ]
              refine wpAnyL_takeY 6 _ (.pointer (some ⟨g, 0, none⟩)) rfl (by kernel_rfl) (by kernel_rfl) (by kernel_rfl) (by kernel_rfl) (fun _ _ _ h => h) (Or.inl ⟨by rfl, ?_⟩) ?_
              · intro w'; go_simp
              simp only [Act.put, List.setIfInBounds_toArray, List.set_cons_zero, List.set_cons_succ]
              refine wpAnyL_takeY 7 _ (.pointer (some ⟨g, 3, none⟩)) rfl (by kernel_rfl) (by kernel_rfl) (by kernel_rfl) (by kernel_rfl) (fun _ _ _ h => h) (Or.inl ⟨by rfl, ?_⟩) ?_
              · intro w'; go_simp
              simp only [Act.put, List.setIfInBounds_toArray, List.set_cons_zero, List.set_cons_succ]
              refine wpAnyL_takeY 9 _ (.int .i64 ((j : Int) + 1)) rfl (by kernel_rfl) (by kernel_rfl) (by kernel_rfl) (by kernel_rfl) (fun _ _ _ h => h) (Or.inl ⟨by rfl, ?_⟩) ?_
              · intro w'; go_simp
              simp only [Act.put, List.setIfInBounds_toArray, List.set_cons_zero, List.set_cons_succ]
              refine wpAnyL_takeY 10 _ (.pointer (some ⟨g, 0, none⟩)) rfl (by kernel_rfl) (by kernel_rfl) (by kernel_rfl) (by kernel_rfl) (fun _ _ _ h => h) (Or.inl ⟨by rfl, ?_⟩) ?_
              · intro w'; go_simp
              simp only [Act.put, List.setIfInBounds_toArray, List.set_cons_zero, List.set_cons_succ]
              refine wpAnyL_takeY 11 _ (.pointer (some ⟨g, 0, none⟩)) rfl (by kernel_rfl) (by kernel_rfl) (by kernel_rfl) (by kernel_rfl) (fun _ _ _ h => h) (Or.inl ⟨by rfl, ?_⟩) ?_
              · intro w'; go_simp
              simp only [Act.put, List.setIfInBounds_toArray, List.set_cons_zero, List.set_cons_succ]
              refine wpAnyL_takeY 12 _ (.pointer (some ⟨g, 4, none⟩)) rfl (by kernel_rfl) (by kernel_rfl) (by kernel_rfl) (by kernel_rfl) (fun _ _ _ h => h) (Or.inl ⟨by rfl, ?_⟩) ?_
              · intro w'; go_simp
              simp only [Act.put, List.setIfInBounds_toArray, List.set_cons_zero, List.set_cons_succ]
              refine wpAnyL_takeY 14 _ (.int .i64 ((j : Int) + 1)) rfl (by kernel_rfl) (by kernel_rfl) (by kernel_rfl) (by kernel_rfl) (fun _ _ _ h => h) (Or.inl ⟨by rfl, ?_⟩) ?_
              · intro w'; go_simp
              simp only [Act.put, List.setIfInBounds_toArray, List.set_cons_zero, List.set_cons_succ]
              refine wpAnyL_takeY 15 _ (.string s) rfl (by kernel_rfl) (by kernel_rfl) (by kernel_rfl) (by kernel_rfl) (fun _ _ _ h => h) (Or.inl ⟨by rfl, ?_⟩) ?_
              · intro w'; go_simp
              simp only [Act.put, List.setIfInBounds_toArray, List.set_cons_zero, List.set_cons_succ]
              refine wpAnyL_take 3 _ (.slice (some ⟨bK, 0, none⟩) (N) cK) rfl (by kernel_rfl) (by kernel_rfl) (by kernel_rfl) (by kernel_rfl) (fun _ _ _ h => h) (Or.inl ⟨by rfl, ?_⟩) hS ?_
              · intro w' hSw; obtain ⟨x2, x3, x4, z0, z1, z2⟩ := hSw; go_simp
              simp only [Act.put, List.setIfInBounds_toArray, List.set_cons_zero, List.set_cons_succ]
              refine wpAnyL_take 8 _ (.slice (some ⟨bU, 0, none⟩) (N) cU) rfl (by kernel_rfl) (by kernel_rfl) (by kernel_rfl) (by kernel_rfl) (fun _ _ _ h => h) (Or.inl ⟨by rfl, ?_⟩) hS ?_
              · intro w' hSw; obtain ⟨x2, x3, x4, z0, z1, z2⟩ := hSw; go_simp
              simp only [Act.put, List.setIfInBounds_toArray, List.set_cons_zero, List.set_cons_succ]
              refine wpAnyL_take 13 _ (.slice (some ⟨bH, 0, none⟩) (N) cH) rfl (by kernel_rfl) (by kernel_rfl) (by kernel_rfl) (by kernel_rfl) (fun _ _ _ h => h) (Or.inl ⟨by rfl, ?_⟩) hS ?_
              · intro w' hSw; obtain ⟨x2, x3, x4, z0, z1, z2⟩ := hSw; go_simp
              simp only [Act.put, List.setIfInBounds_toArray, List.set_cons_zero, List.set_cons_succ]
              refine wpAnyL_take 16 _ (.agg #[.int .i64 hd.1, .int .i64 hd.2.1, .int .i64 hd.2.2]) rfl (by kernel_rfl) (by kernel_rfl) (by kernel_rfl) (by kernel_rfl) (fun _ _ _ h => h) (Or.inl ⟨by rfl, ?_⟩) hS ?_
              · intro w' hSw; obtain ⟨x2, x3, x4, z0, z1, z2⟩ := hSw; go_simp
              simp only [Act.put, List.setIfInBounds_toArray, List.set_cons_zero, List.set_cons_succ]
              refine wpAnyL_take 17 _ (.pointer (some ⟨bK, j + 1, none⟩)) rfl (by kernel_rfl) (by kernel_rfl) (by kernel_rfl) (by kernel_rfl) (fun _ _ _ h => h) (Or.inl ⟨by rfl, ?_⟩) hS ?_
              · intro w' hSw; obtain ⟨x2, x3, x4, z0, z1, z2⟩ := hSw; go_simp
              simp only [Act.put, List.setIfInBounds_toArray, List.set_cons_zero, List.set_cons_succ]
              clear hS
              refine wpAnyL_all [18] (by kernel_rfl) (by simp) ?_
              refine lateCons ?_ lateNil
              refine wpOpL_step _ rfl (fun K' hK => ?_)
              go_simp
              refine hK.out _ _ (fun _ => HX.s1 htx BX hnx) ?_
              clear hK K'
              try simp only [Act.put, List.setIfInBounds_toArray, List.set_cons_zero, List.set_cons_succ]
              refine wpAnyL_take 19 _ (.pointer (some ⟨bU, j + 1, none⟩)) rfl (by kernel_rfl) (by kernel_rfl) (by kernel_rfl) (by kernel_rfl) (fun _ _ _ h => h) (Or.inl ⟨by rfl, ?_⟩) (HX.s1 htx BX hnx) ?_
              · intro w' hSw; obtain ⟨x2, x3, x4, z0, z1, z2⟩ := hSw; go_simp
              simp only [Act.put, List.setIfInBounds_toArray, List.set_cons_zero, List.set_cons_succ]
              refine wpAnyL_all [20] (by kernel_rfl) (by simp) ?_
              refine lateCons ?_ lateNil
              refine wpOpL_step _ rfl (fun K' hK => ?_)
              go_simp
              refine hK.out _ _ (fun _ => HX.s2 htx BX hnx) ?_
              clear hK K'
              try simp only [Act.put, List.setIfInBounds_toArray, List.set_cons_zero, List.set_cons_succ]
              refine wpAnyL_take 21 _ (.pointer (some ⟨bH, (j + 1) * 3, none⟩)) rfl (by kernel_rfl) (by kernel_rfl) (by kernel_rfl) (by kernel_rfl) (fun _ _ _ h => h) (Or.inl ⟨by rfl, ?_⟩) (HX.s2 htx BX hnx) ?_
              · intro w' hSw; obtain ⟨x2, x3, x4, z0, z1, z2⟩ := hSw; go_simp
              simp only [Act.put, List.setIfInBounds_toArray, List.set_cons_zero, List.set_cons_succ]
              refine wpAnyL_all [22] (by kernel_rfl) (by simp) ?_
              refine lateCons ?_ lateNil
              refine wpOpL_step _ rfl (fun K' hK => ?_)
              go_simp
              refine hK.out _ _ (fun h => absurd h (by decide)) ?_
              clear hK K'
              try simp only [Act.put, List.setIfInBounds_toArray, List.set_cons_zero, List.set_cons_succ]
              refine wpAnyL_done (by kernel_rfl) ?_ _
              dsimp only [NoPanic]
              obtain ⟨H6, S6⟩ := HX.setEn htx hix s hd (q.t + 1)
              rw [show ((((u0.setCell ⟨bK, j + 1, none⟩ (.string s)).setCell ⟨bU, j + 1, none⟩ (.int .i64 1)).setCell ⟨bH, (j + 1) * 3, none⟩ (.int .i64 hd.1)).setCell ⟨bH, (j + 1) * 3 + 1, none⟩ (.int .i64 hd.2.1)).setCell ⟨bH, (j + 1) * 3 + 2, none⟩ (.int .i64 hd.2.2) = setEnW u0 bK bU bH j s hd from rfl]
              generalize setEnW u0 bK bU bH j s hd = W6 at *
              have e6 : ({ q with e := q.e.set (j) ⟨s, 1, hd⟩, t := q.t + 1 } : PSt) = q.put s hd := by rw [hj2.out]; exact (put_dead (by rw [← hj2.out]; exact hix)).symm
              rw [e6] at H6
              have HA6 := HAX.keep S6 (fun c h1 h2 => hap.no c h2 h1) hap.z1
              have H6' := Lib.hid H6
              have SX6 := Lib.hid (SX.trans (S6.mono rng_l))
              clear H6 S6 HX htx BX HAX SX e6 fK fU fH fH1 fH2 o1 o2 o3 o4 o5 hnx hix
              go_wp2
              go_ret2
              have hG2 := HH.out.out
              rw [E1.out] at hG2 ⊢
              rw [← hj2.out]
              exact ⟨rfl, _, ⟨hG2, _, _, _, _, _, _, H6'.out⟩, HA6, SX6.out⟩
          · have hlt3 : ¬ (j : Int) + 1 < (q.e.length : Int) + 1 := by omega
            obtain rfl : j = q.e.length := by omega
            have hv5 : ((q.e.length : Int) + 1 == (q.e.length : Int) + 1) = true := by simp
            have hj2 := Lib.hid (show q.e.length = slotNo q.e by omega)
            clear hj hsl hlt2 hlt3
            go_upto_region 18 with fail
            rw [hN] at x2 x3 x4
            have G0 := App3.begin HH5.out ht5 hN
            have hbK : (ksR q.e).length + 1 ≤ 1000000000 := by simp [ksR]; omega
            have hbU : (usR q.e).length + 1 ≤ 1000000000 := by simp [usR]; omega
            have hbH : (hsR q.e).length + 1 ≤ 1000000000 := by simp [hsR]; omega
            have hlK : (ksR q.e ++ [(⟨#[]⟩ : ByteArray)]).length = N + 1 := by simp [ksR]; omega
            have hlU : (usR q.e ++ [(0 : Int)]).length = N + 1 := by simp [usR]; omega
            have hlH : (hsR q.e ++ [((0, 0, 0) : Hd)]).length = N + 1 := by simp [hsR]; omega
            have h0 : ¬ Rng k 0 := rng0 HH5.out.k1
            go_cut [] from 80 to 107 (fun wx => ∃ col6 b1 c1 b2 c2 b3 c3, RefQB col6 k wx g ga q.grow b1 c1 b2 c2 b3 c3 ∧ StepC (Rng k) col4 wr col6 wx)
            case first =>
              have HN := Lib.hid hN
              clear hN
              refine wp_region_noPanic ?_
              refine wp_region_late (fun w' => w'.cell? ⟨g, 2, none⟩ = some (.slice (some ⟨bK, 0, none⟩) N cK) ∧ w'.cell? ⟨g, 3, none⟩ = some (.slice (some ⟨bU, 0, none⟩) N cU) ∧ w'.cell? ⟨g, 4, none⟩ = some (.slice (some ⟨bH, 0, none⟩) N cH)) (fun j => Nat.ble 22 j || [0, 1, 2, 3, 4, 5, 9, 10, 11, 15, 16, 17, 19].contains j) (by kernel_rfl) ?_
              intro u0 hu0
              rw [hu0] at G0
              have hS : (fun w' => w'.cell? ⟨g, 2, none⟩ = some (.slice (some ⟨bK, 0, none⟩) N cK) ∧ w'.cell? ⟨g, 3, none⟩ = some (.slice (some ⟨bU, 0, none⟩) N cU) ∧ w'.cell? ⟨g, 4, none⟩ = some (.slice (some ⟨bH, 0, none⟩) N cH)) u0 := G0.S
              clear hu0 x2 x3 x4
              refine wpAnyL_takeY 0 _ (.pointer (some ⟨g, 0, none⟩)) rfl (by kernel_rfl) (by kernel_rfl) (by kernel_rfl) (by kernel_rfl) (fun _ _ _ h => h) (Or.inl ⟨by rfl, ?_⟩) ?_
              · intro w'; go_simp
              simp only [Act.put, List.setIfInBounds_toArray, List.set_cons_zero, List.set_cons_succ]
              refine wpAnyL_takeY 1 _ (.pointer (some ⟨g, 0, none⟩)) rfl (by kernel_rfl) (by kernel_rfl) (by kernel_rfl) (by kernel_rfl) (fun _ _ _ h => h) (Or.inl ⟨by rfl, ?_⟩) ?_
              · intro w'; go_simp
              simp only [Act.put, List.setIfInBounds_toArray, List.set_cons_zero, List.set_cons_succ]
              refine wpAnyL_takeY 2 _ (.pointer (some ⟨g, 0, none⟩)) rfl (by kernel_rfl) (by kernel_rfl) (by kernel_rfl) (by kernel_rfl) (fun _ _ _ h => h) (Or.inl ⟨by rfl, ?_⟩) ?_
              · intro w'; go_simp
              simp only [Act.put, List.setIfInBounds_toArray, List.set_cons_zero, List.set_cons_succ]
              refine wpAnyL_takeY 3 _ (.pointer (some ⟨g, 0, none⟩)) rfl (by kernel_rfl) (by kernel_rfl) (by kernel_rfl) (by kernel_rfl) (fun _ _ _ h => h) (Or.inl ⟨by rfl, ?_⟩) ?_
              · intro w'; go_simp
              simp only [Act.put, List.setIfInBounds_toArray, List.set_cons_zero, List.set_cons_succ]
              refine wpAnyL_takeY 4 _ (.pointer (some ⟨g, 0, none⟩)) rfl (by kernel_rfl) (by kernel_rfl) (by kernel_rfl) (by kernel_rfl) (fun _ _ _ h => h) (Or.inl ⟨by rfl, ?_⟩) ?_
              · intro w'; go_simp
              simp only [Act.put, List.setIfInBounds_toArray, List.set_cons_zero, List.set_cons_succ]
              refine wpAnyL_takeY 5 _ (.pointer (some ⟨g, 2, none⟩)) rfl (by kernel_rfl) (by kernel_rfl) (by kernel_rfl) (by kernel_rfl) (fun _ _ _ h => h) (Or.inl ⟨by rfl, ?_⟩) ?_
              · intro w'; go_simp
              simp only [Act.put, List.setIfInBounds_toArray, List.set_cons_zero, List.set_cons_succ]
              refine wpAnyL_takeY 9 _ (.pointer (some ⟨g, 0, none⟩)) rfl (by kernel_rfl) (by kernel_rfl) (by kernel_rfl) (by kernel_rfl) (fun _ _ _ h => h) (Or.inl ⟨by rfl, ?_⟩) ?_
              · intro w'; go_simp
              simp only [Act.put, List.setIfInBounds_toArray, List.set_cons_zero, List.set_cons_succ]
              refine wpAnyL_takeY 10 _ (.pointer (some ⟨g, 0, none⟩)) rfl (by kernel_rfl) (by kernel_rfl) (by kernel_rfl) (by kernel_rfl) (fun _ _ _ h => h) (Or.inl ⟨by rfl, ?_⟩) ?_
              · intro w'; go_simp
              simp only [Act.put, List.setIfInBounds_toArray, List.set_cons_zero, List.set_cons_succ]
              refine wpAnyL_takeY 11 _ (.pointer (some ⟨g, 3, none⟩)) rfl (by kernel_rfl) (by kernel_rfl) (by kernel_rfl) (by kernel_rfl) (fun _ _ _ h => h) (Or.inl ⟨by rfl, ?_⟩) ?_
              · intro w'; go_simp
              simp only [Act.put, List.setIfInBounds_toArray, List.set_cons_zero, List.set_cons_succ]
              refine wpAnyL_takeY 15 _ (.pointer (some ⟨g, 0, none⟩)) rfl (by kernel_rfl) (by kernel_rfl) (by kernel_rfl) (by kernel_rfl) (fun _ _ _ h => h) (Or.inl ⟨by rfl, ?_⟩) ?_
              · intro w'; go_simp
              simp only [Act.put, List.setIfInBounds_toArray, List.set_cons_zero, List.set_cons_succ]
              refine wpAnyL_takeY 16 _ (.pointer (some ⟨g, 0, none⟩)) rfl (by kernel_rfl) (by kernel_rfl) (by kernel_rfl) (by kernel_rfl) (fun _ _ _ h => h) (Or.inl ⟨by rfl, ?_⟩) ?_
              · intro w'; go_simp
              simp only [Act.put, List.setIfInBounds_toArray, List.set_cons_zero, List.set_cons_succ]
              refine wpAnyL_takeY 17 _ (.pointer (some ⟨g, 4, none⟩)) rfl (by kernel_rfl) (by kernel_rfl) (by kernel_rfl) (by kernel_rfl) (fun _ _ _ h => h) (Or.inl ⟨by rfl, ?_⟩) ?_
              · intro w'; go_simp
              simp only [Act.put, List.setIfInBounds_toArray, List.set_cons_zero, List.set_cons_succ]
              refine wpAnyL_takeY 19 _ (.agg #[.int .i64 0, .int .i64 0, .int .i64 0]) rfl (by kernel_rfl) (by kernel_rfl) (by kernel_rfl) (by kernel_rfl) (fun _ _ _ h => h) (Or.inl ⟨by rfl, ?_⟩) ?_
              · intro w'; go_simp
              simp only [Act.put, List.setIfInBounds_toArray, List.set_cons_zero, List.set_cons_succ]
              refine wpAnyL_take 6 _ (.slice (some ⟨bK, 0, none⟩) N cK) rfl (by kernel_rfl) (by kernel_rfl) (by kernel_rfl) (by kernel_rfl) (fun _ _ _ h => h) (Or.inl ⟨by rfl, ?_⟩) hS ?_
              · intro w' hSw; obtain ⟨x2, x3, x4⟩ := hSw; go_simp
              simp only [Act.put, List.setIfInBounds_toArray, List.set_cons_zero, List.set_cons_succ]
              refine wpAnyL_take 12 _ (.slice (some ⟨bU, 0, none⟩) N cU) rfl (by kernel_rfl) (by kernel_rfl) (by kernel_rfl) (by kernel_rfl) (fun _ _ _ h => h) (Or.inl ⟨by rfl, ?_⟩) hS ?_
              · intro w' hSw; obtain ⟨x2, x3, x4⟩ := hSw; go_simp
              simp only [Act.put, List.setIfInBounds_toArray, List.set_cons_zero, List.set_cons_succ]
              refine wpAnyL_take 18 _ (.slice (some ⟨bH, 0, none⟩) N cH) rfl (by kernel_rfl) (by kernel_rfl) (by kernel_rfl) (by kernel_rfl) (fun _ _ _ h => h) (Or.inl ⟨by rfl, ?_⟩) hS ?_
              · intro w' hSw; obtain ⟨x2, x3, x4⟩ := hSw; go_simp
              simp only [Act.put, List.setIfInBounds_toArray, List.set_cons_zero, List.set_cons_succ]
              clear hS
              refine wpAnyL_all [7, 13, 20] (by kernel_rfl) (by simp) ?_
              refine (lateCons ?_ (lateCons ?_ (lateCons ?_ lateNil)))
              · refine wpOpL_step _ rfl (fun K' hK => ?_)
                refine App3.litThen kT (⟨#[]⟩ : ByteArray) (cs := #[.string ⟨#[]⟩]) rfl 9 rfl G0 ?_
                intro u1 pK e1 e2 G1 LK s1
                go_simp
                try rw [e1]
                try rw [e2]
                refine hK.out _ _ (fun _ => G1.S) ?_
                clear hK K' G0 s1
                try simp only [Act.put, List.setIfInBounds_toArray, List.set_cons_zero, List.set_cons_succ]
                refine wpAnyL_all [8, 13, 20] (by kernel_rfl) (by simp) ?_
                refine (lateCons ?_ (lateCons ?_ (lateCons ?_ lateNil)))
                · refine wpOpL_step _ rfl (fun K' hK => ?_)
                  refine App3.stepK rfl (.tmp 86) (.tmp 87) rfl rfl rfl G1 LK hbK hlK (Nat.succ_pos N) ?_
                  intro bK2 cK2 u2 col2 G2 s2
                  clear LK
                  refine hK.out _ _ (fun _ => G2.S) ?_
                  clear hK K' G1 s2
                  try simp only [Act.put, List.setIfInBounds_toArray, List.set_cons_zero, List.set_cons_succ]
                  refine wpAnyL_all [13, 20] (by kernel_rfl) (by simp) ?_
                  refine (lateCons ?_ (lateCons ?_ lateNil))
                  · refine wpOpL_step _ rfl (fun K' hK => ?_)
                    refine App3.litThen kI (0 : Int) (cs := #[.int .i64 0]) rfl 3 rfl G2 ?_
                    intro u3 pU e1 e2 G3 LU s3
                    go_simp
                    try rw [e1]
                    try rw [e2]
                    refine hK.out _ _ (fun _ => G3.S) ?_
                    clear hK K' G2 s3
                    try simp only [Act.put, List.setIfInBounds_toArray, List.set_cons_zero, List.set_cons_succ]
                    refine wpAnyL_all [14, 20] (by kernel_rfl) (by simp) ?_
                    refine (lateCons ?_ (lateCons ?_ lateNil))
                    · refine wpOpL_step _ rfl (fun K' hK => ?_)
                      refine App3.stepU rfl (.tmp 92) (.tmp 93) rfl rfl rfl G3 LU hbU hlU (Nat.succ_pos N) ?_
                      intro bU2 cU2 u4 col4 G4 s4
                      clear LU
                      refine hK.out _ _ (fun _ => G4.S) ?_
                      clear hK K' G3 s4
                      try simp only [Act.put, List.setIfInBounds_toArray, List.set_cons_zero, List.set_cons_succ]
                      refine wpAnyL_all [20] (by kernel_rfl) (by simp) ?_
                      refine (lateCons ?_ lateNil)
                      · refine wpOpL_step _ rfl (fun K' hK => ?_)
                        refine App3.litThen kH ((0, 0, 0) : Hd) (cs := #[.int .i64 0, .int .i64 0, .int .i64 0]) rfl 81 rfl G4 ?_
                        intro u5 pH e1 e2 G5 LH s5
                        go_simp
                        try rw [e1]
                        try rw [e2]
                        refine hK.out _ _ (fun _ => G5.S) ?_
                        clear hK K' G4 s5
                        try simp only [Act.put, List.setIfInBounds_toArray, List.set_cons_zero, List.set_cons_succ]
                        refine wpAnyL_all [21] (by kernel_rfl) (by simp) ?_
                        refine (lateCons ?_ lateNil)
                        · refine wpOpL_step _ rfl (fun K' hK => ?_)
                          refine App3.stepH rfl (.tmp 98) (.tmp 100) rfl rfl rfl G5 LH hbH hlH (Nat.succ_pos N) ?_
                          intro bH2 cH2 u6 col6 G6 s6
                          clear LH
                          refine hK.out _ _ (fun _ => G6.S) ?_
                          clear hK K' G5 s6
                          try simp only [Act.put, List.setIfInBounds_toArray, List.set_cons_zero, List.set_cons_succ]
                          have f2 := G6.box.free 2
                          have f3 := G6.box.free 3
                          have f4 := G6.box.free 4
                          have hfin := G6.fin HN.out
                          obtain ⟨y2, y3, y4⟩ := G6.S
                          refine wpAnyL_takeY 22 _ (.pointer (some ⟨g, 0, none⟩)) rfl (by kernel_rfl) (by kernel_rfl) (by kernel_rfl) (by kernel_rfl) (fun _ _ _ h => h) (Or.inl ⟨by rfl, ?_⟩) ?_
                          · intro w'; go_simp
                          simp only [Act.put, List.setIfInBounds_toArray, List.set_cons_zero, List.set_cons_succ]
                          refine wpAnyL_takeY 23 _ (.pointer (some ⟨g, 2, none⟩)) rfl (by kernel_rfl) (by kernel_rfl) (by kernel_rfl) (by kernel_rfl) (fun _ _ _ h => h) (Or.inl ⟨by rfl, ?_⟩) ?_
                          · intro w'; go_simp
                          simp only [Act.put, List.setIfInBounds_toArray, List.set_cons_zero, List.set_cons_succ]
                          refine wpAnyL_all [24] (by kernel_rfl) (by simp) ?_
                          refine lateCons ?_ lateNil
                          refine wpOpL_step _ rfl (fun K' hK => ?_)
                          go_simp
                          refine hK.out _ _ (fun h => absurd h (by decide)) ?_
                          clear hK K'
                          try simp only [Act.put, List.setIfInBounds_toArray, List.set_cons_zero, List.set_cons_succ]
                          refine wpAnyL_takeY 25 _ (.pointer (some ⟨g, 0, none⟩)) rfl (by kernel_rfl) (by kernel_rfl) (by kernel_rfl) (by kernel_rfl) (fun _ _ _ h => h) (Or.inl ⟨by rfl, ?_⟩) ?_
                          · intro w'; go_simp
                          simp only [Act.put, List.setIfInBounds_toArray, List.set_cons_zero, List.set_cons_succ]
                          refine wpAnyL_takeY 26 _ (.pointer (some ⟨g, 3, none⟩)) rfl (by kernel_rfl) (by kernel_rfl) (by kernel_rfl) (by kernel_rfl) (fun _ _ _ h => h) (Or.inl ⟨by rfl, ?_⟩) ?_
                          · intro w'; go_simp
                          simp only [Act.put, List.setIfInBounds_toArray, List.set_cons_zero, List.set_cons_succ]
                          refine wpAnyL_all [27] (by kernel_rfl) (by simp) ?_
                          refine lateCons ?_ lateNil
                          refine wpOpL_step _ rfl (fun K' hK => ?_)
                          go_simp
                          refine hK.out _ _ (fun h => absurd h (by decide)) ?_
                          clear hK K'
                          try simp only [Act.put, List.setIfInBounds_toArray, List.set_cons_zero, List.set_cons_succ]
                          refine wpAnyL_takeY 28 _ (.pointer (some ⟨g, 0, none⟩)) rfl (by kernel_rfl) (by kernel_rfl) (by kernel_rfl) (by kernel_rfl) (fun _ _ _ h => h) (Or.inl ⟨by rfl, ?_⟩) ?_
                          · intro w'; go_simp
                          simp only [Act.put, List.setIfInBounds_toArray, List.set_cons_zero, List.set_cons_succ]
                          refine wpAnyL_takeY 29 _ (.pointer (some ⟨g, 4, none⟩)) rfl (by kernel_rfl) (by kernel_rfl) (by kernel_rfl) (by kernel_rfl) (fun _ _ _ h => h) (Or.inl ⟨by rfl, ?_⟩) ?_
                          · intro w'; go_simp
                          simp only [Act.put, List.setIfInBounds_toArray, List.set_cons_zero, List.set_cons_succ]
                          refine wpAnyL_all [30] (by kernel_rfl) (by simp) ?_
                          refine lateCons ?_ lateNil
                          refine wpOpL_step _ rfl (fun K' hK => ?_)
                          go_simp
                          refine hK.out _ _ (fun h => absurd h (by decide)) ?_
                          clear hK K'
                          try simp only [Act.put, List.setIfInBounds_toArray, List.set_cons_zero, List.set_cons_succ]
                          refine wpAnyL_done (by kernel_rfl) ?_ _
                          dsimp only [NoPanic]
                          go_wp2_with fail
                          go_meet
                          exact ⟨_, _, _, _, _, _, _, hfin.1, hfin.2⟩
                    · refine wpOpL_step _ rfl (fun K' hK => ?_)
                      refine App3.litThen kH ((0, 0, 0) : Hd) (cs := #[.int .i64 0, .int .i64 0, .int .i64 0]) rfl 81 rfl G3 ?_
                      intro u4 pH e1 e2 G4 LH s4
                      have LU := LU.keep s4 h0
                      go_simp
                      try rw [e1]
                      try rw [e2]
                      refine hK.out _ _ (fun _ => G4.S) ?_
                      clear hK K' G3 s4
                      try simp only [Act.put, List.setIfInBounds_toArray, List.set_cons_zero, List.set_cons_succ]
                      refine wpAnyL_all [14] (by kernel_rfl) (by simp) ?_
                      refine (lateCons ?_ lateNil)
                      · refine wpOpL_step _ rfl (fun K' hK => ?_)
                        refine App3.stepU rfl (.tmp 92) (.tmp 93) rfl rfl rfl G4 LU hbU hlU (Nat.succ_pos N) ?_
                        intro bU2 cU2 u5 col5 G5 s5
                        have LH := LH.keep s5 h0
                        clear LU
                        refine hK.out _ _ (fun _ => G5.S) ?_
                        clear hK K' G4 s5
                        try simp only [Act.put, List.setIfInBounds_toArray, List.set_cons_zero, List.set_cons_succ]
                        refine wpAnyL_all [21] (by kernel_rfl) (by simp) ?_
                        refine (lateCons ?_ lateNil)
                        · refine wpOpL_step _ rfl (fun K' hK => ?_)
                          refine App3.stepH rfl (.tmp 98) (.tmp 100) rfl rfl rfl G5 LH hbH hlH (Nat.succ_pos N) ?_
                          intro bH2 cH2 u6 col6 G6 s6
                          clear LH
                          refine hK.out _ _ (fun _ => G6.S) ?_
                          clear hK K' G5 s6
                          try simp only [Act.put, List.setIfInBounds_toArray, List.set_cons_zero, List.set_cons_succ]
                          have f2 := G6.box.free 2
                          have f3 := G6.box.free 3
                          have f4 := G6.box.free 4
                          have hfin := G6.fin HN.out
                          obtain ⟨y2, y3, y4⟩ := G6.S
                          refine wpAnyL_takeY 22 _ (.pointer (some ⟨g, 0, none⟩)) rfl (by kernel_rfl) (by kernel_rfl) (by kernel_rfl) (by kernel_rfl) (fun _ _ _ h => h) (Or.inl ⟨by rfl, ?_⟩) ?_
                          · intro w'; go_simp
                          simp only [Act.put, List.setIfInBounds_toArray, List.set_cons_zero, List.set_cons_succ]
                          refine wpAnyL_takeY 23 _ (.pointer (some ⟨g, 2, none⟩)) rfl (by kernel_rfl) (by kernel_rfl) (by kernel_rfl) (by kernel_rfl) (fun _ _ _ h => h) (Or.inl ⟨by rfl, ?_⟩) ?_
                          · intro w'; go_simp
                          simp only [Act.put, List.setIfInBounds_toArray, List.set_cons_zero, List.set_cons_succ]
                          refine wpAnyL_all [24] (by kernel_rfl) (by simp) ?_
                          refine lateCons ?_ lateNil
                          refine wpOpL_step _ rfl (fun K' hK => ?_)
                          go_simp
                          refine hK.out _ _ (fun h => absurd h (by decide)) ?_
                          clear hK K'
                          try simp only [Act.put, List.setIfInBounds_toArray, List.set_cons_zero, List.set_cons_succ]
                          refine wpAnyL_takeY 25 _ (.pointer (some ⟨g, 0, none⟩)) rfl (by kernel_rfl) (by kernel_rfl) (by kernel_rfl) (by kernel_rfl) (fun _ _ _ h => h) (Or.inl ⟨by rfl, ?_⟩) ?_
                          · intro w'; go_simp
                          simp only [Act.put, List.setIfInBounds_toArray, List.set_cons_zero, List.set_cons_succ]
                          refine wpAnyL_takeY 26 _ (.pointer (some ⟨g, 3, none⟩)) rfl (by kernel_rfl) (by kernel_rfl) (by kernel_rfl) (by kernel_rfl) (fun _ _ _ h => h) (Or.inl ⟨by rfl, ?_⟩) ?_
                          · intro w'; go_simp
                          simp only [Act.put, List.setIfInBounds_toArray, List.set_cons_zero, List.set_cons_succ]
                          refine wpAnyL_all [27] (by kernel_rfl) (by simp) ?_
                          refine lateCons ?_ lateNil
                          refine wpOpL_step _ rfl (fun K' hK => ?_)
                          go_simp
                          refine hK.out _ _ (fun h => absurd h (by decide)) ?_
                          clear hK K'
                          try simp only [Act.put, List.setIfInBounds_toArray, List.set_cons_zero, List.set_cons_succ]
                          refine wpAnyL_takeY 28 _ (.pointer (some ⟨g, 0, none⟩)) rfl (by kernel_rfl) (by kernel_rfl) (by kernel_rfl) (by kernel_rfl) (fun _ _ _ h => h) (Or.inl ⟨by rfl, ?_⟩) ?_
                          · intro w'; go_simp
                          simp only [Act.put, List.setIfInBounds_toArray, List.set_cons_zero, List.set_cons_succ]
                          refine wpAnyL_takeY 29 _ (.pointer (some ⟨g, 4, none⟩)) rfl (by kernel_rfl) (by kernel_rfl) (by kernel_rfl) (by kernel_rfl) (fun _ _ _ h => h) (Or.inl ⟨by rfl, ?_⟩) ?_
                          · intro w'; go_simp
                          simp only [Act.put, List.setIfInBounds_toArray, List.set_cons_zero, List.set_cons_succ]
                          refine wpAnyL_all [30] (by kernel_rfl) (by simp) ?_
                          refine lateCons ?_ lateNil
                          refine wpOpL_step _ rfl (fun K' hK => ?_)
                          go_simp
                          refine hK.out _ _ (fun h => absurd h (by decide)) ?_
                          clear hK K'
                          try simp only [Act.put, List.setIfInBounds_toArray, List.set_cons_zero, List.set_cons_succ]
                          refine wpAnyL_done (by kernel_rfl) ?_ _
                          dsimp only [NoPanic]
                          go_wp2_with fail
                          go_meet
                          exact ⟨_, _, _, _, _, _, _, hfin.1, hfin.2⟩
                  · refine wpOpL_step _ rfl (fun K' hK => ?_)
                    refine App3.litThen kH ((0, 0, 0) : Hd) (cs := #[.int .i64 0, .int .i64 0, .int .i64 0]) rfl 81 rfl G2 ?_
                    intro u3 pH e1 e2 G3 LH s3
                    go_simp
                    try rw [e1]
                    try rw [e2]
                    refine hK.out _ _ (fun _ => G3.S) ?_
                    clear hK K' G2 s3
                    try simp only [Act.put, List.setIfInBounds_toArray, List.set_cons_zero, List.set_cons_succ]
                    refine wpAnyL_all [13] (by kernel_rfl) (by simp) ?_
                    refine (lateCons ?_ lateNil)
                    · refine wpOpL_step _ rfl (fun K' hK => ?_)
                      refine App3.litThen kI (0 : Int) (cs := #[.int .i64 0]) rfl 3 rfl G3 ?_
                      intro u4 pU e1 e2 G4 LU s4
                      have LH := LH.keep s4 h0
                      go_simp
                      try rw [e1]
                      try rw [e2]
                      refine hK.out _ _ (fun _ => G4.S) ?_
                      clear hK K' G3 s4
                      try simp only [Act.put, List.setIfInBounds_toArray, List.set_cons_zero, List.set_cons_succ]
                      refine wpAnyL_all [14] (by kernel_rfl) (by simp) ?_
                      refine (lateCons ?_ lateNil)
                      · refine wpOpL_step _ rfl (fun K' hK => ?_)
                        refine App3.stepU rfl (.tmp 92) (.tmp 93) rfl rfl rfl G4 LU hbU hlU (Nat.succ_pos N) ?_
                        intro bU2 cU2 u5 col5 G5 s5
                        have LH := LH.keep s5 h0
                        clear LU
                        refine hK.out _ _ (fun _ => G5.S) ?_
                        clear hK K' G4 s5
                        try simp only [Act.put, List.setIfInBounds_toArray, List.set_cons_zero, List.set_cons_succ]
                        refine wpAnyL_all [21] (by kernel_rfl) (by simp) ?_
                        refine (lateCons ?_ lateNil)
                        · refine wpOpL_step _ rfl (fun K' hK => ?_)
                          refine App3.stepH rfl (.tmp 98) (.tmp 100) rfl rfl rfl G5 LH hbH hlH (Nat.succ_pos N) ?_
                          intro bH2 cH2 u6 col6 G6 s6
                          clear LH
                          refine hK.out _ _ (fun _ => G6.S) ?_
                          clear hK K' G5 s6
                          try simp only [Act.put, List.setIfInBounds_toArray, List.set_cons_zero, List.set_cons_succ]
                          have f2 := G6.box.free 2
                          have f3 := G6.box.free 3
                          have f4 := G6.box.free 4
                          have hfin := G6.fin HN.out
                          obtain ⟨y2, y3, y4⟩ := G6.S
                          refine wpAnyL_takeY 22 _ (.pointer (some ⟨g, 0, none⟩)) rfl (by kernel_rfl) (by kernel_rfl) (by kernel_rfl) (by kernel_rfl) (fun _ _ _ h => h) (Or.inl ⟨by rfl, ?_⟩) ?_
                          · intro w'; go_simp
                          simp only [Act.put, List.setIfInBounds_toArray, List.set_cons_zero, List.set_cons_succ]
                          refine wpAnyL_takeY 23 _ (.pointer (some ⟨g, 2, none⟩)) rfl (by kernel_rfl) (by kernel_rfl) (by kernel_rfl) (by kernel_rfl) (fun _ _ _ h => h) (Or.inl ⟨by rfl, ?_⟩) ?_
                          · intro w'; go_simp
                          simp only [Act.put, List.setIfInBounds_toArray, List.set_cons_zero, List.set_cons_succ]
                          refine wpAnyL_all [24] (by kernel_rfl) (by simp) ?_
                          refine lateCons ?_ lateNil
                          refine wpOpL_step _ rfl (fun K' hK => ?_)
                          go_simp
                          refine hK.out _ _ (fun h => absurd h (by decide)) ?_
                          clear hK K'
                          try simp only [Act.put, List.setIfInBounds_toArray, List.set_cons_zero, List.set_cons_succ]
                          refine wpAnyL_takeY 25 _ (.pointer (some ⟨g, 0, none⟩)) rfl (by kernel_rfl) (by kernel_rfl) (by kernel_rfl) (by kernel_rfl) (fun _ _ _ h => h) (Or.inl ⟨by rfl, ?_⟩) ?_
                          · intro w'; go_simp
                          simp only [Act.put, List.setIfInBounds_toArray, List.set_cons_zero, List.set_cons_succ]
                          refine wpAnyL_takeY 26 _ (.pointer (some ⟨g, 3, none⟩)) rfl (by kernel_rfl) (by kernel_rfl) (by kernel_rfl) (by kernel_rfl) (fun _ _ _ h => h) (Or.inl ⟨by rfl, ?_⟩) ?_
                          · intro w'; go_simp
                          simp only [Act.put, List.setIfInBounds_toArray, List.set_cons_zero, List.set_cons_succ]
                          refine wpAnyL_all [27] (by kernel_rfl) (by simp) ?_
                          refine lateCons ?_ lateNil
                          refine wpOpL_step _ rfl (fun K' hK => ?_)
                          go_simp
                          refine hK.out _ _ (fun h => absurd h (by decide)) ?_
                          clear hK K'
                          try simp only [Act.put, List.setIfInBounds_toArray, List.set_cons_zero, List.set_cons_succ]
                          refine wpAnyL_takeY 28 _ (.pointer (some ⟨g, 0, none⟩)) rfl (by kernel_rfl) (by kernel_rfl) (by kernel_rfl) (by kernel_rfl) (fun _ _ _ h => h) (Or.inl ⟨by rfl, ?_⟩) ?_
                          · intro w'; go_simp
                          simp only [Act.put, List.setIfInBounds_toArray, List.set_cons_zero, List.set_cons_succ]
                          refine wpAnyL_takeY 29 _ (.pointer (some ⟨g, 4, none⟩)) rfl (by kernel_rfl) (by kernel_rfl) (by kernel_rfl) (by kernel_rfl) (fun _ _ _ h => h) (Or.inl ⟨by rfl, ?_⟩) ?_
                          · intro w'; go_simp
                          simp only [Act.put, List.setIfInBounds_toArray, List.set_cons_zero, List.set_cons_succ]
                          refine wpAnyL_all [30] (by kernel_rfl) (by simp) ?_
                          refine lateCons ?_ lateNil
                          refine wpOpL_step _ rfl (fun K' hK => ?_)
                          go_simp
                          refine hK.out _ _ (fun h => absurd h (by decide)) ?_
                          clear hK K'
                          try simp only [Act.put, List.setIfInBounds_toArray, List.set_cons_zero, List.set_cons_succ]
                          refine wpAnyL_done (by kernel_rfl) ?_ _
                          dsimp only [NoPanic]
                          go_wp2_with fail
                          go_meet
                          exact ⟨_, _, _, _, _, _, _, hfin.1, hfin.2⟩
                · refine wpOpL_step _ rfl (fun K' hK => ?_)
                  refine App3.litThen kI (0 : Int) (cs := #[.int .i64 0]) rfl 3 rfl G1 ?_
                  intro u2 pU e1 e2 G2 LU s2
                  have LK := LK.keep s2 h0
                  go_simp
                  try rw [e1]
                  try rw [e2]
                  refine hK.out _ _ (fun _ => G2.S) ?_
                  clear hK K' G1 s2
                  try simp only [Act.put, List.setIfInBounds_toArray, List.set_cons_zero, List.set_cons_succ]
                  refine wpAnyL_all [8, 20] (by kernel_rfl) (by simp) ?_
                  refine (lateCons ?_ (lateCons ?_ lateNil))
                  · refine wpOpL_step _ rfl (fun K' hK => ?_)
                    refine App3.stepK rfl (.tmp 86) (.tmp 87) rfl rfl rfl G2 LK hbK hlK (Nat.succ_pos N) ?_
                    intro bK2 cK2 u3 col3 G3 s3
                    have LU := LU.keep s3 h0
                    clear LK
                    refine hK.out _ _ (fun _ => G3.S) ?_
                    clear hK K' G2 s3
                    try simp only [Act.put, List.setIfInBounds_toArray, List.set_cons_zero, List.set_cons_succ]
                    refine wpAnyL_all [14, 20] (by kernel_rfl) (by simp) ?_
                    refine (lateCons ?_ (lateCons ?_ lateNil))
                    · refine wpOpL_step _ rfl (fun K' hK => ?_)
                      refine App3.stepU rfl (.tmp 92) (.tmp 93) rfl rfl rfl G3 LU hbU hlU (Nat.succ_pos N) ?_
                      intro bU2 cU2 u4 col4 G4 s4
                      clear LU
                      refine hK.out _ _ (fun _ => G4.S) ?_
                      clear hK K' G3 s4
                      try simp only [Act.put, List.setIfInBounds_toArray, List.set_cons_zero, List.set_cons_succ]
                      refine wpAnyL_all [20] (by kernel_rfl) (by simp) ?_
                      refine (lateCons ?_ lateNil)
                      · refine wpOpL_step _ rfl (fun K' hK => ?_)
                        refine App3.litThen kH ((0, 0, 0) : Hd) (cs := #[.int .i64 0, .int .i64 0, .int .i64 0]) rfl 81 rfl G4 ?_
                        intro u5 pH e1 e2 G5 LH s5
                        go_simp
                        try rw [e1]
                        try rw [e2]
                        refine hK.out _ _ (fun _ => G5.S) ?_
                        clear hK K' G4 s5
                        try simp only [Act.put, List.setIfInBounds_toArray, List.set_cons_zero, List.set_cons_succ]
                        refine wpAnyL_all [21] (by kernel_rfl) (by simp) ?_
                        refine (lateCons ?_ lateNil)
                        · refine wpOpL_step _ rfl (fun K' hK => ?_)
                          refine App3.stepH rfl (.tmp 98) (.tmp 100) rfl rfl rfl G5 LH hbH hlH (Nat.succ_pos N) ?_
                          intro bH2 cH2 u6 col6 G6 s6
                          clear LH
                          refine hK.out _ _ (fun _ => G6.S) ?_
                          clear hK K' G5 s6
                          try simp only [Act.put, List.setIfInBounds_toArray, List.set_cons_zero, List.set_cons_succ]
                          have f2 := G6.box.free 2
                          have f3 := G6.box.free 3
                          have f4 := G6.box.free 4
                          have hfin := G6.fin HN.out
                          obtain ⟨y2, y3, y4⟩ := G6.S
                          refine wpAnyL_takeY 22 _ (.pointer (some ⟨g, 0, none⟩)) rfl (by kernel_rfl) (by kernel_rfl) (by kernel_rfl) (by kernel_rfl) (fun _ _ _ h => h) (Or.inl ⟨by rfl, ?_⟩) ?_
                          · intro w'; go_simp
                          simp only [Act.put, List.setIfInBounds_toArray, List.set_cons_zero, List.set_cons_succ]
                          refine wpAnyL_takeY 23 _ (.pointer (some ⟨g, 2, none⟩)) rfl (by kernel_rfl) (by kernel_rfl) (by kernel_rfl) (by kernel_rfl) (fun _ _ _ h => h) (Or.inl ⟨by rfl, ?_⟩) ?_
                          · intro w'; go_simp
                          simp only [Act.put, List.setIfInBounds_toArray, List.set_cons_zero, List.set_cons_succ]
                          refine wpAnyL_all [24] (by kernel_rfl) (by simp) ?_
                          refine lateCons ?_ lateNil
                          refine wpOpL_step _ rfl (fun K' hK => ?_)
                          go_simp
                          refine hK.out _ _ (fun h => absurd h (by decide)) ?_
                          clear hK K'
                          try simp only [Act.put, List.setIfInBounds_toArray, List.set_cons_zero, List.set_cons_succ]
                          refine wpAnyL_takeY 25 _ (.pointer (some ⟨g, 0, none⟩)) rfl (by kernel_rfl) (by kernel_rfl) (by kernel_rfl) (by kernel_rfl) (fun _ _ _ h => h) (Or.inl ⟨by rfl, ?_⟩) ?_
                          · intro w'; go_simp
                          simp only [Act.put, List.setIfInBounds_toArray, List.set_cons_zero, List.set_cons_succ]
                          refine wpAnyL_takeY 26 _ (.pointer (some ⟨g, 3, none⟩)) rfl (by kernel_rfl) (by kernel_rfl) (by kernel_rfl) (by kernel_rfl) (fun _ _ _ h => h) (Or.inl ⟨by rfl, ?_⟩) ?_
                          · intro w'; go_simp
                          simp only [Act.put, List.setIfInBounds_toArray, List.set_cons_zero, List.set_cons_succ]
                          refine wpAnyL_all [27] (by kernel_rfl) (by simp) ?_
                          refine lateCons ?_ lateNil
                          refine wpOpL_step _ rfl (fun K' hK => ?_)
                          go_simp
                          refine hK.out _ _ (fun h => absurd h (by decide)) ?_
                          clear hK K'
                          try simp only [Act.put, List.setIfInBounds_toArray, List.set_cons_zero, List.set_cons_succ]
                          refine wpAnyL_takeY 28 _ (.pointer (some ⟨g, 0, none⟩)) rfl (by kernel_rfl) (by kernel_rfl) (by kernel_rfl) (by kernel_rfl) (fun _ _ _ h => h) (Or.inl ⟨by rfl, ?_⟩) ?_
                          · intro w'; go_simp
                          simp only [Act.put, List.setIfInBounds_toArray, List.set_cons_zero, List.set_cons_succ]
                          refine wpAnyL_takeY 29 _ (.pointer (some ⟨g, 4, none⟩)) rfl (by kernel_rfl) (by kernel_rfl) (by kernel_rfl) (by kernel_rfl) (fun _ _ _ h => h) (Or.inl ⟨by rfl, ?_⟩) ?_
                          · intro w'; go_simp
                          simp only [Act.put, List.setIfInBounds_toArray, List.set_cons_zero, List.set_cons_succ]
                          refine wpAnyL_all [30] (by kernel_rfl) (by simp) ?_
                          refine lateCons ?_ lateNil
                          refine wpOpL_step _ rfl (fun K' hK => ?_)
                          go_simp
                          refine hK.out _ _ (fun h => absurd h (by decide)) ?_
                          clear hK K'
                          try simp only [Act.put, List.setIfInBounds_toArray, List.set_cons_zero, List.set_cons_succ]
                          refine wpAnyL_done (by kernel_rfl) ?_ _
                          dsimp only [NoPanic]
                          go_wp2_with fail
                          go_meet
                          exact ⟨_, _, _, _, _, _, _, hfin.1, hfin.2⟩
                    · refine wpOpL_step _ rfl (fun K' hK => ?_)
                      refine App3.litThen kH ((0, 0, 0) : Hd) (cs := #[.int .i64 0, .int .i64 0, .int .i64 0]) rfl 81 rfl G3 ?_
                      intro u4 pH e1 e2 G4 LH s4
                      have LU := LU.keep s4 h0
                      go_simp
                      try rw [e1]
                      try rw [e2]
                      refine hK.out _ _ (fun _ => G4.S) ?_
                      clear hK K' G3 s4
                      try simp only [Act.put, List.setIfInBounds_toArray, List.set_cons_zero, List.set_cons_succ]
                      refine wpAnyL_all [14] (by kernel_rfl) (by simp) ?_
                      refine (lateCons ?_ lateNil)
                      · refine wpOpL_step _ rfl (fun K' hK => ?_)
                        refine App3.stepU rfl (.tmp 92) (.tmp 93) rfl rfl rfl G4 LU hbU hlU (Nat.succ_pos N) ?_
                        intro bU2 cU2 u5 col5 G5 s5
                        have LH := LH.keep s5 h0
                        clear LU
                        refine hK.out _ _ (fun _ => G5.S) ?_
                        clear hK K' G4 s5
                        try simp only [Act.put, List.setIfInBounds_toArray, List.set_cons_zero, List.set_cons_succ]
                        refine wpAnyL_all [21] (by kernel_rfl) (by simp) ?_
                        refine (lateCons ?_ lateNil)
                        · refine wpOpL_step _ rfl (fun K' hK => ?_)
                          refine App3.stepH rfl (.tmp 98) (.tmp 100) rfl rfl rfl G5 LH hbH hlH (Nat.succ_pos N) ?_
                          intro bH2 cH2 u6 col6 G6 s6
                          clear LH
                          refine hK.out _ _ (fun _ => G6.S) ?_
                          clear hK K' G5 s6
                          try simp only [Act.put, List.setIfInBounds_toArray, List.set_cons_zero, List.set_cons_succ]
                          have f2 := G6.box.free 2
                          have f3 := G6.box.free 3
                          have f4 := G6.box.free 4
                          have hfin := G6.fin HN.out
                          obtain ⟨y2, y3, y4⟩ := G6.S
                          refine wpAnyL_takeY 22 _ (.pointer (some ⟨g, 0, none⟩)) rfl (by kernel_rfl) (by kernel_rfl) (by kernel_rfl) (by kernel_rfl) (fun _ _ _ h => h) (Or.inl ⟨by rfl, ?_⟩) ?_
                          · intro w'; go_simp
                          simp only [Act.put, List.setIfInBounds_toArray, List.set_cons_zero, List.set_cons_succ]
                          refine wpAnyL_takeY 23 _ (.pointer (some ⟨g, 2, none⟩)) rfl (by kernel_rfl) (by kernel_rfl) (by kernel_rfl) (by kernel_rfl) (fun _ _ _ h => h) (Or.inl ⟨by rfl, ?_⟩) ?_
                          · intro w'; go_simp
                          simp only [Act.put, List.setIfInBounds_toArray, List.set_cons_zero, List.set_cons_succ]
                          refine wpAnyL_all [24] (by kernel_rfl) (by simp) ?_
                          refine lateCons ?_ lateNil
                          refine wpOpL_step _ rfl (fun K' hK => ?_)
                          go_simp
                          refine hK.out _ _ (fun h => absurd h (by decide)) ?_
                          clear hK K'
                          try simp only [Act.put, List.setIfInBounds_toArray, List.set_cons_zero, List.set_cons_succ]
                          refine wpAnyL_takeY 25 _ (.pointer (some ⟨g, 0, none⟩)) rfl (by kernel_rfl) (by kernel_rfl) (by kernel_rfl) (by kernel_rfl) (fun _ _ _ h => h) (Or.inl ⟨by rfl, ?_⟩) ?_
                          · intro w'; go_simp
                          simp only [Act.put, List.setIfInBounds_toArray, List.set_cons_zero, List.set_cons_succ]
                          refine wpAnyL_takeY 26 _ (.pointer (some ⟨g, 3, none⟩)) rfl (by kernel_rfl) (by kernel_rfl) (by kernel_rfl) (by kernel_rfl) (fun _ _ _ h => h) (Or.inl ⟨by rfl, ?_⟩) ?_
                          · intro w'; go_simp
                          simp only [Act.put, List.setIfInBounds_toArray, List.set_cons_zero, List.set_cons_succ]
                          refine wpAnyL_all [27] (by kernel_rfl) (by simp) ?_
                          refine lateCons ?_ lateNil
                          refine wpOpL_step _ rfl (fun K' hK => ?_)
                          go_simp
                          refine hK.out _ _ (fun h => absurd h (by decide)) ?_
                          clear hK K'
                          try simp only [Act.put, List.setIfInBounds_toArray, List.set_cons_zero, List.set_cons_succ]
                          refine wpAnyL_takeY 28 _ (.pointer (some ⟨g, 0, none⟩)) rfl (by kernel_rfl) (by kernel_rfl) (by kernel_rfl) (by kernel_rfl) (fun _ _ _ h => h) (Or.inl ⟨by rfl, ?_⟩) ?_
                          · intro w'; go_simp
                          simp only [Act.put, List.setIfInBounds_toArray, List.set_cons_zero, List.set_cons_succ]
                          refine wpAnyL_takeY 29 _ (.pointer (some ⟨g, 4, none⟩)) rfl (by kernel_rfl) (by kernel_rfl) (by kernel_rfl) (by kernel_rfl) (fun _ _ _ h => h) (Or.inl ⟨by rfl, ?_⟩) ?_
                          · intro w'; go_simp
                          simp only [Act.put, List.setIfInBounds_toArray, List.set_cons_zero, List.set_cons_succ]
                          refine wpAnyL_all [30] (by kernel_rfl) (by simp) ?_
                          refine lateCons ?_ lateNil
                          refine wpOpL_step _ rfl (fun K' hK => ?_)
                          go_simp
                          refine hK.out _ _ (fun h => absurd h (by decide)) ?_
                          clear hK K'
                          try simp only [Act.put, List.setIfInBounds_toArray, List.set_cons_zero, List.set_cons_succ]
                          refine wpAnyL_done (by kernel_rfl) ?_ _
                          dsimp only [NoPanic]
                          go_wp2_with fail
                          go_meet
                          exact ⟨_, _, _, _, _, _, _, hfin.1, hfin.2⟩
                  · refine wpOpL_step _ rfl (fun K' hK => ?_)
                    refine App3.litThen kH ((0, 0, 0) : Hd) (cs := #[.int .i64 0, .int .i64 0, .int .i64 0]) rfl 81 rfl G2 ?_
                    intro u3 pH e1 e2 G3 LH s3
                    have LK := LK.keep s3 h0
                    have LU := LU.keep s3 h0
                    go_simp
                    try rw [e1]
                    try rw [e2]
                    refine hK.out _ _ (fun _ => G3.S) ?_
                    clear hK K' G2 s3
                    try simp only [Act.put, List.setIfInBounds_toArray, List.set_cons_zero, List.set_cons_succ]
                    refine wpAnyL_all [8] (by kernel_rfl) (by simp) ?_
                    refine (lateCons ?_ lateNil)
                    · refine wpOpL_step _ rfl (fun K' hK => ?_)
                      refine App3.stepK rfl (.tmp 86) (.tmp 87) rfl rfl rfl G3 LK hbK hlK (Nat.succ_pos N) ?_
                      intro bK2 cK2 u4 col4 G4 s4
                      have LU := LU.keep s4 h0
                      have LH := LH.keep s4 h0
                      clear LK
                      refine hK.out _ _ (fun _ => G4.S) ?_
                      clear hK K' G3 s4
                      try simp only [Act.put, List.setIfInBounds_toArray, List.set_cons_zero, List.set_cons_succ]
                      refine wpAnyL_all [14] (by kernel_rfl) (by simp) ?_
                      refine (lateCons ?_ lateNil)
                      · refine wpOpL_step _ rfl (fun K' hK => ?_)
                        refine App3.stepU rfl (.tmp 92) (.tmp 93) rfl rfl rfl G4 LU hbU hlU (Nat.succ_pos N) ?_
                        intro bU2 cU2 u5 col5 G5 s5
                        have LH := LH.keep s5 h0
                        clear LU
                        refine hK.out _ _ (fun _ => G5.S) ?_
                        clear hK K' G4 s5
                        try simp only [Act.put, List.setIfInBounds_toArray, List.set_cons_zero, List.set_cons_succ]
                        refine wpAnyL_all [21] (by kernel_rfl) (by simp) ?_
                        refine (lateCons ?_ lateNil)
                        · refine wpOpL_step _ rfl (fun K' hK => ?_)
                          refine App3.stepH rfl (.tmp 98) (.tmp 100) rfl rfl rfl G5 LH hbH hlH (Nat.succ_pos N) ?_
                          intro bH2 cH2 u6 col6 G6 s6
                          clear LH
                          refine hK.out _ _ (fun _ => G6.S) ?_
                          clear hK K' G5 s6
                          try simp only [Act.put, List.setIfInBounds_toArray, List.set_cons_zero, List.set_cons_succ]
                          have f2 := G6.box.free 2
                          have f3 := G6.box.free 3
                          have f4 := G6.box.free 4
                          have hfin := G6.fin HN.out
                          obtain ⟨y2, y3, y4⟩ := G6.S
                          refine wpAnyL_takeY 22 _ (.pointer (some ⟨g, 0, none⟩)) rfl (by kernel_rfl) (by kernel_rfl) (by kernel_rfl) (by kernel_rfl) (fun _ _ _ h => h) (Or.inl ⟨by rfl, ?_⟩) ?_
                          · intro w'; go_simp
                          simp only [Act.put, List.setIfInBounds_toArray, List.set_cons_zero, List.set_cons_succ]
                          refine wpAnyL_takeY 23 _ (.pointer (some ⟨g, 2, none⟩)) rfl (by kernel_rfl) (by kernel_rfl) (by kernel_rfl) (by kernel_rfl) (fun _ _ _ h => h) (Or.inl ⟨by rfl, ?_⟩) ?_
                          · intro w'; go_simp
                          simp only [Act.put, List.setIfInBounds_toArray, List.set_cons_zero, List.set_cons_succ]
                          refine wpAnyL_all [24] (by kernel_rfl) (by simp) ?_
                          refine lateCons ?_ lateNil
                          refine wpOpL_step _ rfl (fun K' hK => ?_)
                          go_simp
                          refine hK.out _ _ (fun h => absurd h (by decide)) ?_
                          clear hK K'
                          try simp only [Act.put, List.setIfInBounds_toArray, List.set_cons_zero, List.set_cons_succ]
                          refine wpAnyL_takeY 25 _ (.pointer (some ⟨g, 0, none⟩)) rfl (by kernel_rfl) (by kernel_rfl) (by kernel_rfl) (by kernel_rfl) (fun _ _ _ h => h) (Or.inl ⟨by rfl, ?_⟩) ?_
                          · intro w'; go_simp
                          simp only [Act.put, List.setIfInBounds_toArray, List.set_cons_zero, List.set_cons_succ]
                          refine wpAnyL_takeY 26 _ (.pointer (some ⟨g, 3, none⟩)) rfl (by kernel_rfl) (by kernel_rfl) (by kernel_rfl) (by kernel_rfl) (fun _ _ _ h => h) (Or.inl ⟨by rfl, ?_⟩) ?_
                          · intro w'; go_simp
                          simp only [Act.put, List.setIfInBounds_toArray, List.set_cons_zero, List.set_cons_succ]
                          refine wpAnyL_all [27] (by kernel_rfl) (by simp) ?_
                          refine lateCons ?_ lateNil
                          refine wpOpL_step _ rfl (fun K' hK => ?_)
                          go_simp
                          refine hK.out _ _ (fun h => absurd h (by decide)) ?_
                          clear hK K'
                          try simp only [Act.put, List.setIfInBounds_toArray, List.set_cons_zero, List.set_cons_succ]
                          refine wpAnyL_takeY 28 _ (.pointer (some ⟨g, 0, none⟩)) rfl (by kernel_rfl) (by kernel_rfl) (by kernel_rfl) (by kernel_rfl) (fun _ _ _ h => h) (Or.inl ⟨by rfl, ?_⟩) ?_
                          · intro w'; go_simp
                          simp only [Act.put, List.setIfInBounds_toArray, List.set_cons_zero, List.set_cons_succ]
                          refine wpAnyL_takeY 29 _ (.pointer (some ⟨g, 4, none⟩)) rfl (by kernel_rfl) (by kernel_rfl) (by kernel_rfl) (by kernel_rfl) (fun _ _ _ h => h) (Or.inl ⟨by rfl, ?_⟩) ?_
                          · intro w'; go_simp
                          simp only [Act.put, List.setIfInBounds_toArray, List.set_cons_zero, List.set_cons_succ]
                          refine wpAnyL_all [30] (by kernel_rfl) (by simp) ?_
                          refine lateCons ?_ lateNil
                          refine wpOpL_step _ rfl (fun K' hK => ?_)
                          go_simp
                          refine hK.out _ _ (fun h => absurd h (by decide)) ?_
                          clear hK K'
                          try simp only [Act.put, List.setIfInBounds_toArray, List.set_cons_zero, List.set_cons_succ]
                          refine wpAnyL_done (by kernel_rfl) ?_ _
                          dsimp only [NoPanic]
                          go_wp2_with fail
                          go_meet
                          exact ⟨_, _, _, _, _, _, _, hfin.1, hfin.2⟩
                · refine wpOpL_step _ rfl (fun K' hK => ?_)
                  refine App3.litThen kH ((0, 0, 0) : Hd) (cs := #[.int .i64 0, .int .i64 0, .int .i64 0]) rfl 81 rfl G1 ?_
                  intro u2 pH e1 e2 G2 LH s2
                  have LK := LK.keep s2 h0
                  go_simp
                  try rw [e1]
                  try rw [e2]
                  refine hK.out _ _ (fun _ => G2.S) ?_
                  clear hK K' G1 s2
                  try simp only [Act.put, List.setIfInBounds_toArray, List.set_cons_zero, List.set_cons_succ]
                  refine wpAnyL_all [8, 13] (by kernel_rfl) (by simp) ?_
                  refine (lateCons ?_ (lateCons ?_ lateNil))
                  · refine wpOpL_step _ rfl (fun K' hK => ?_)
                    refine App3.stepK rfl (.tmp 86) (.tmp 87) rfl rfl rfl G2 LK hbK hlK (Nat.succ_pos N) ?_
                    intro bK2 cK2 u3 col3 G3 s3
                    have LH := LH.keep s3 h0
                    clear LK
                    refine hK.out _ _ (fun _ => G3.S) ?_
                    clear hK K' G2 s3
                    try simp only [Act.put, List.setIfInBounds_toArray, List.set_cons_zero, List.set_cons_succ]
                    refine wpAnyL_all [13] (by kernel_rfl) (by simp) ?_
                    refine (lateCons ?_ lateNil)
                    · refine wpOpL_step _ rfl (fun K' hK => ?_)
                      refine App3.litThen kI (0 : Int) (cs := #[.int .i64 0]) rfl 3 rfl G3 ?_
                      intro u4 pU e1 e2 G4 LU s4
                      have LH := LH.keep s4 h0
                      go_simp
                      try rw [e1]
                      try rw [e2]
                      refine hK.out _ _ (fun _ => G4.S) ?_
                      clear hK K' G3 s4
                      try simp only [Act.put, List.setIfInBounds_toArray, List.set_cons_zero, List.set_cons_succ]
                      refine wpAnyL_all [14] (by kernel_rfl) (by simp) ?_
                      refine (lateCons ?_ lateNil)
                      · refine wpOpL_step _ rfl (fun K' hK => ?_)
                        refine App3.stepU rfl (.tmp 92) (.tmp 93) rfl rfl rfl G4 LU hbU hlU (Nat.succ_pos N) ?_
                        intro bU2 cU2 u5 col5 G5 s5
                        have LH := LH.keep s5 h0
                        clear LU
                        refine hK.out _ _ (fun _ => G5.S) ?_
                        clear hK K' G4 s5
                        try simp only [Act.put, List.setIfInBounds_toArray, List.set_cons_zero, List.set_cons_succ]
                        refine wpAnyL_all [21] (by kernel_rfl) (by simp) ?_
                        refine (lateCons ?_ lateNil)
                        · refine wpOpL_step _ rfl (fun K' hK => ?_)
                          refine App3.stepH rfl (.tmp 98) (.tmp 100) rfl rfl rfl G5 LH hbH hlH (Nat.succ_pos N) ?_
                          intro bH2 cH2 u6 col6 G6 s6
                          clear LH
                          refine hK.out _ _ (fun _ => G6.S) ?_
                          clear hK K' G5 s6
                          try simp only [Act.put, List.setIfInBounds_toArray, List.set_cons_zero, List.set_cons_succ]
                          have f2 := G6.box.free 2
                          have f3 := G6.box.free 3
                          have f4 := G6.box.free 4
                          have hfin := G6.fin HN.out
                          obtain ⟨y2, y3, y4⟩ := G6.S
                          refine wpAnyL_takeY 22 _ (.pointer (some ⟨g, 0, none⟩)) rfl (by kernel_rfl) (by kernel_rfl) (by kernel_rfl) (by kernel_rfl) (fun _ _ _ h => h) (Or.inl ⟨by rfl, ?_⟩) ?_
                          · intro w'; go_simp
                          simp only [Act.put, List.setIfInBounds_toArray, List.set_cons_zero, List.set_cons_succ]
                          refine wpAnyL_takeY 23 _ (.pointer (some ⟨g, 2, none⟩)) rfl (by kernel_rfl) (by kernel_rfl) (by kernel_rfl) (by kernel_rfl) (fun _ _ _ h => h) (Or.inl ⟨by rfl, ?_⟩) ?_
                          · intro w'; go_simp
                          simp only [Act.put, List.setIfInBounds_toArray, List.set_cons_zero, List.set_cons_succ]
                          refine wpAnyL_all [24] (by kernel_rfl) (by simp) ?_
                          refine lateCons ?_ lateNil
                          refine wpOpL_step _ rfl (fun K' hK => ?_)
                          go_simp
                          refine hK.out _ _ (fun h => absurd h (by decide)) ?_
                          clear hK K'
                          try simp only [Act.put, List.setIfInBounds_toArray, List.set_cons_zero, List.set_cons_succ]
                          refine wpAnyL_takeY 25 _ (.pointer (some ⟨g, 0, none⟩)) rfl (by kernel_rfl) (by kernel_rfl) (by kernel_rfl) (by kernel_rfl) (fun _ _ _ h => h) (Or.inl ⟨by rfl, ?_⟩) ?_
                          · intro w'; go_simp
                          simp only [Act.put, List.setIfInBounds_toArray, List.set_cons_zero, List.set_cons_succ]
                          refine wpAnyL_takeY 26 _ (.pointer (some ⟨g, 3, none⟩)) rfl (by kernel_rfl) (by kernel_rfl) (by kernel_rfl) (by kernel_rfl) (fun _ _ _ h => h) (Or.inl ⟨by rfl, ?_⟩) ?_
                          · intro w'; go_simp
                          simp only [Act.put, List.setIfInBounds_toArray, List.set_cons_zero, List.set_cons_succ]
                          refine wpAnyL_all [27] (by kernel_rfl) (by simp) ?_
                          refine lateCons ?_ lateNil
                          refine wpOpL_step _ rfl (fun K' hK => ?_)
                          go_simp
                          refine hK.out _ _ (fun h => absurd h (by decide)) ?_
                          clear hK K'
                          try simp only [Act.put, List.setIfInBounds_toArray, List.set_cons_zero, List.set_cons_succ]
                          refine wpAnyL_takeY 28 _ (.pointer (some ⟨g, 0, none⟩)) rfl (by kernel_rfl) (by kernel_rfl) (by kernel_rfl) (by kernel_rfl) (fun _ _ _ h => h) (Or.inl ⟨by rfl, ?_⟩) ?_
                          · intro w'; go_simp
                          simp only [Act.put, List.setIfInBounds_toArray, List.set_cons_zero, List.set_cons_succ]
                          refine wpAnyL_takeY 29 _ (.pointer (some ⟨g, 4, none⟩)) rfl (by kernel_rfl) (by kernel_rfl) (by kernel_rfl) (by kernel_rfl) (fun _ _ _ h => h) (Or.inl ⟨by rfl, ?_⟩) ?_
                          · intro w'; go_simp
                          simp only [Act.put, List.setIfInBounds_toArray, List.set_cons_zero, List.set_cons_succ]
                          refine wpAnyL_all [30] (by kernel_rfl) (by simp) ?_
                          refine lateCons ?_ lateNil
                          refine wpOpL_step _ rfl (fun K' hK => ?_)
                          go_simp
                          refine hK.out _ _ (fun h => absurd h (by decide)) ?_
                          clear hK K'
                          try simp only [Act.put, List.setIfInBounds_toArray, List.set_cons_zero, List.set_cons_succ]
                          refine wpAnyL_done (by kernel_rfl) ?_ _
                          dsimp only [NoPanic]
                          go_wp2_with fail
                          go_meet
                          exact ⟨_, _, _, _, _, _, _, hfin.1, hfin.2⟩
                  · refine wpOpL_step _ rfl (fun K' hK => ?_)
                    refine App3.litThen kI (0 : Int) (cs := #[.int .i64 0]) rfl 3 rfl G2 ?_
                    intro u3 pU e1 e2 G3 LU s3
                    have LK := LK.keep s3 h0
                    have LH := LH.keep s3 h0
                    go_simp
                    try rw [e1]
                    try rw [e2]
                    refine hK.out _ _ (fun _ => G3.S) ?_
                    clear hK K' G2 s3
                    try simp only [Act.put, List.setIfInBounds_toArray, List.set_cons_zero, List.set_cons_succ]
                    refine wpAnyL_all [8] (by kernel_rfl) (by simp) ?_
                    refine (lateCons ?_ lateNil)
                    · refine wpOpL_step _ rfl (fun K' hK => ?_)
                      refine App3.stepK rfl (.tmp 86) (.tmp 87) rfl rfl rfl G3 LK hbK hlK (Nat.succ_pos N) ?_
                      intro bK2 cK2 u4 col4 G4 s4
                      have LH := LH.keep s4 h0
                      have LU := LU.keep s4 h0
                      clear LK
                      refine hK.out _ _ (fun _ => G4.S) ?_
                      clear hK K' G3 s4
                      try simp only [Act.put, List.setIfInBounds_toArray, List.set_cons_zero, List.set_cons_succ]
                      refine wpAnyL_all [14] (by kernel_rfl) (by simp) ?_
                      refine (lateCons ?_ lateNil)
                      · refine wpOpL_step _ rfl (fun K' hK => ?_)
                        refine App3.stepU rfl (.tmp 92) (.tmp 93) rfl rfl rfl G4 LU hbU hlU (Nat.succ_pos N) ?_
                        intro bU2 cU2 u5 col5 G5 s5
                        have LH := LH.keep s5 h0
                        clear LU
                        refine hK.out _ _ (fun _ => G5.S) ?_
                        clear hK K' G4 s5
                        try simp only [Act.put, List.setIfInBounds_toArray, List.set_cons_zero, List.set_cons_succ]
                        refine wpAnyL_all [21] (by kernel_rfl) (by simp) ?_
                        refine (lateCons ?_ lateNil)
                        · refine wpOpL_step _ rfl (fun K' hK => ?_)
                          refine App3.stepH rfl (.tmp 98) (.tmp 100) rfl rfl rfl G5 LH hbH hlH (Nat.succ_pos N) ?_
                          intro bH2 cH2 u6 col6 G6 s6
                          clear LH
                          refine hK.out _ _ (fun _ => G6.S) ?_
                          clear hK K' G5 s6
                          try simp only [Act.put, List.setIfInBounds_toArray, List.set_cons_zero, List.set_cons_succ]
                          have f2 := G6.box.free 2
                          have f3 := G6.box.free 3
                          have f4 := G6.box.free 4
                          have hfin := G6.fin HN.out
                          obtain ⟨y2, y3, y4⟩ := G6.S
                          refine wpAnyL_takeY 22 _ (.pointer (some ⟨g, 0, none⟩)) rfl (by kernel_rfl) (by kernel_rfl) (by kernel_rfl) (by kernel_rfl) (fun _ _ _ h => h) (Or.inl ⟨by rfl, ?_⟩) ?_
                          · intro w'; go_simp
                          simp only [Act.put, List.setIfInBounds_toArray, List.set_cons_zero, List.set_cons_succ]
                          refine wpAnyL_takeY 23 _ (.pointer (some ⟨g, 2, none⟩)) rfl (by kernel_rfl) (by kernel_rfl) (by kernel_rfl) (by kernel_rfl) (fun _ _ _ h => h) (Or.inl ⟨by rfl, ?_⟩) ?_
                          · intro w'; go_simp
                          simp only [Act.put, List.setIfInBounds_toArray, List.set_cons_zero, List.set_cons_succ]
                          refine wpAnyL_all [24] (by kernel_rfl) (by simp) ?_
                          refine lateCons ?_ lateNil
                          refine wpOpL_step _ rfl (fun K' hK => ?_)
                          go_simp
                          refine hK.out _ _ (fun h => absurd h (by decide)) ?_
                          clear hK K'
                          try simp only [Act.put, List.setIfInBounds_toArray, List.set_cons_zero, List.set_cons_succ]
                          refine wpAnyL_takeY 25 _ (.pointer (some ⟨g, 0, none⟩)) rfl (by kernel_rfl) (by kernel_rfl) (by kernel_rfl) (by kernel_rfl) (fun _ _ _ h => h) (Or.inl ⟨by rfl, ?_⟩) ?_
                          · intro w'; go_simp
                          simp only [Act.put, List.setIfInBounds_toArray, List.set_cons_zero, List.set_cons_succ]
                          refine wpAnyL_takeY 26 _ (.pointer (some ⟨g, 3, none⟩)) rfl (by kernel_rfl) (by kernel_rfl) (by kernel_rfl) (by kernel_rfl) (fun _ _ _ h => h) (Or.inl ⟨by rfl, ?_⟩) ?_
                          · intro w'; go_simp
                          simp only [Act.put, List.setIfInBounds_toArray, List.set_cons_zero, List.set_cons_succ]
                          refine wpAnyL_all [27] (by kernel_rfl) (by simp) ?_
                          refine lateCons ?_ lateNil
                          refine wpOpL_step _ rfl (fun K' hK => ?_)
                          go_simp
                          refine hK.out _ _ (fun h => absurd h (by decide)) ?_
                          clear hK K'
                          try simp only [Act.put, List.setIfInBounds_toArray, List.set_cons_zero, List.set_cons_succ]
                          refine wpAnyL_takeY 28 _ (.pointer (some ⟨g, 0, none⟩)) rfl (by kernel_rfl) (by kernel_rfl) (by kernel_rfl) (by kernel_rfl) (fun _ _ _ h => h) (Or.inl ⟨by rfl, ?_⟩) ?_
                          · intro w'; go_simp
                          simp only [Act.put, List.setIfInBounds_toArray, List.set_cons_zero, List.set_cons_succ]
                          refine wpAnyL_takeY 29 _ (.pointer (some ⟨g, 4, none⟩)) rfl (by kernel_rfl) (by kernel_rfl) (by kernel_rfl) (by kernel_rfl) (fun _ _ _ h => h) (Or.inl ⟨by rfl, ?_⟩) ?_
                          · intro w'; go_simp
                          simp only [Act.put, List.setIfInBounds_toArray, List.set_cons_zero, List.set_cons_succ]
                          refine wpAnyL_all [30] (by kernel_rfl) (by simp) ?_
                          refine lateCons ?_ lateNil
                          refine wpOpL_step _ rfl (fun K' hK => ?_)
                          go_simp
                          refine hK.out _ _ (fun h => absurd h (by decide)) ?_
                          clear hK K'
                          try simp only [Act.put, List.setIfInBounds_toArray, List.set_cons_zero, List.set_cons_succ]
                          refine wpAnyL_done (by kernel_rfl) ?_ _
                          dsimp only [NoPanic]
                          go_wp2_with fail
                          go_meet
                          exact ⟨_, _, _, _, _, _, _, hfin.1, hfin.2⟩
              · refine wpOpL_step _ rfl (fun K' hK => ?_)
                refine App3.litThen kI (0 : Int) (cs := #[.int .i64 0]) rfl 3 rfl G0 ?_
                intro u1 pU e1 e2 G1 LU s1
                go_simp
                try rw [e1]
                try rw [e2]
                refine hK.out _ _ (fun _ => G1.S) ?_
                clear hK K' G0 s1
                try simp only [Act.put, List.setIfInBounds_toArray, List.set_cons_zero, List.set_cons_succ]
                refine wpAnyL_all [7, 20] (by kernel_rfl) (by simp) ?_
                refine (lateCons ?_ (lateCons ?_ lateNil))
                · refine wpOpL_step _ rfl (fun K' hK => ?_)
                  refine App3.litThen kT (⟨#[]⟩ : ByteArray) (cs := #[.string ⟨#[]⟩]) rfl 9 rfl G1 ?_
                  intro u2 pK e1 e2 G2 LK s2
                  have LU := LU.keep s2 h0
                  go_simp
                  try rw [e1]
                  try rw [e2]
                  refine hK.out _ _ (fun _ => G2.S) ?_
                  clear hK K' G1 s2
                  try simp only [Act.put, List.setIfInBounds_toArray, List.set_cons_zero, List.set_cons_succ]
                  refine wpAnyL_all [8, 20] (by kernel_rfl) (by simp) ?_
                  refine (lateCons ?_ (lateCons ?_ lateNil))
                  · refine wpOpL_step _ rfl (fun K' hK => ?_)
                    refine App3.stepK rfl (.tmp 86) (.tmp 87) rfl rfl rfl G2 LK hbK hlK (Nat.succ_pos N) ?_
                    intro bK2 cK2 u3 col3 G3 s3
                    have LU := LU.keep s3 h0
                    clear LK
                    refine hK.out _ _ (fun _ => G3.S) ?_
                    clear hK K' G2 s3
                    try simp only [Act.put, List.setIfInBounds_toArray, List.set_cons_zero, List.set_cons_succ]
                    refine wpAnyL_all [14, 20] (by kernel_rfl) (by simp) ?_
                    refine (lateCons ?_ (lateCons ?_ lateNil))
                    · refine wpOpL_step _ rfl (fun K' hK => ?_)
                      refine App3.stepU rfl (.tmp 92) (.tmp 93) rfl rfl rfl G3 LU hbU hlU (Nat.succ_pos N) ?_
                      intro bU2 cU2 u4 col4 G4 s4
                      clear LU
                      refine hK.out _ _ (fun _ => G4.S) ?_
                      clear hK K' G3 s4
                      try simp only [Act.put, List.setIfInBounds_toArray, List.set_cons_zero, List.set_cons_succ]
                      refine wpAnyL_all [20] (by kernel_rfl) (by simp) ?_
                      refine (lateCons ?_ lateNil)
                      · refine wpOpL_step _ rfl (fun K' hK => ?_)
                        refine App3.litThen kH ((0, 0, 0) : Hd) (cs := #[.int .i64 0, .int .i64 0, .int .i64 0]) rfl 81 rfl G4 ?_
                        intro u5 pH e1 e2 G5 LH s5
                        go_simp
                        try rw [e1]
                        try rw [e2]
                        refine hK.out _ _ (fun _ => G5.S) ?_
                        clear hK K' G4 s5
                        try simp only [Act.put, List.setIfInBounds_toArray, List.set_cons_zero, List.set_cons_succ]
                        refine wpAnyL_all [21] (by kernel_rfl) (by simp) ?_
                        refine (lateCons ?_ lateNil)
                        · refine wpOpL_step _ rfl (fun K' hK => ?_)
                          refine App3.stepH rfl (.tmp 98) (.tmp 100) rfl rfl rfl G5 LH hbH hlH (Nat.succ_pos N) ?_
                          intro bH2 cH2 u6 col6 G6 s6
                          clear LH
                          refine hK.out _ _ (fun _ => G6.S) ?_
                          clear hK K' G5 s6
                          try simp only [Act.put, List.setIfInBounds_toArray, List.set_cons_zero, List.set_cons_succ]
                          have f2 := G6.box.free 2
                          have f3 := G6.box.free 3
                          have f4 := G6.box.free 4
                          have hfin := G6.fin HN.out
                          obtain ⟨y2, y3, y4⟩ := G6.S
                          refine wpAnyL_takeY 22 _ (.pointer (some ⟨g, 0, none⟩)) rfl (by kernel_rfl) (by kernel_rfl) (by kernel_rfl) (by kernel_rfl) (fun _ _ _ h => h) (Or.inl ⟨by rfl, ?_⟩) ?_
                          · intro w'; go_simp
                          simp only [Act.put, List.setIfInBounds_toArray, List.set_cons_zero, List.set_cons_succ]
                          refine wpAnyL_takeY 23 _ (.pointer (some ⟨g, 2, none⟩)) rfl (by kernel_rfl) (by kernel_rfl) (by kernel_rfl) (by kernel_rfl) (fun _ _ _ h => h) (Or.inl ⟨by rfl, ?_⟩) ?_
                          · intro w'; go_simp
                          simp only [Act.put, List.setIfInBounds_toArray, List.set_cons_zero, List.set_cons_succ]
                          refine wpAnyL_all [24] (by kernel_rfl) (by simp) ?_
                          refine lateCons ?_ lateNil
                          refine wpOpL_step _ rfl (fun K' hK => ?_)
                          go_simp
                          refine hK.out _ _ (fun h => absurd h (by decide)) ?_
                          clear hK K'
                          try simp only [Act.put, List.setIfInBounds_toArray, List.set_cons_zero, List.set_cons_succ]
                          refine wpAnyL_takeY 25 _ (.pointer (some ⟨g, 0, none⟩)) rfl (by kernel_rfl) (by kernel_rfl) (by kernel_rfl) (by kernel_rfl) (fun _ _ _ h => h) (Or.inl ⟨by rfl, ?_⟩) ?_
                          · intro w'; go_simp
                          simp only [Act.put, List.setIfInBounds_toArray, List.set_cons_zero, List.set_cons_succ]
                          refine wpAnyL_takeY 26 _ (.pointer (some ⟨g, 3, none⟩)) rfl (by kernel_rfl) (by kernel_rfl) (by kernel_rfl) (by kernel_rfl) (fun _ _ _ h => h) (Or.inl ⟨by rfl, ?_⟩) ?_
                          · intro w'; go_simp
                          simp only [Act.put, List.setIfInBounds_toArray, List.set_cons_zero, List.set_cons_succ]
                          refine wpAnyL_all [27] (by kernel_rfl) (by simp) ?_
                          refine lateCons ?_ lateNil
                          refine wpOpL_step _ rfl (fun K' hK => ?_)
                          go_simp
                          refine hK.out _ _ (fun h => absurd h (by decide)) ?_
                          clear hK K'
                          try simp only [Act.put, List.setIfInBounds_toArray, List.set_cons_zero, List.set_cons_succ]
                          refine wpAnyL_takeY 28 _ (.pointer (some ⟨g, 0, none⟩)) rfl (by kernel_rfl) (by kernel_rfl) (by kernel_rfl) (by kernel_rfl) (fun _ _ _ h => h) (Or.inl ⟨by rfl, ?_⟩) ?_
                          · intro w'; go_simp
                          simp only [Act.put, List.setIfInBounds_toArray, List.set_cons_zero, List.set_cons_succ]
                          refine wpAnyL_takeY 29 _ (.pointer (some ⟨g, 4, none⟩)) rfl (by kernel_rfl) (by kernel_rfl) (by kernel_rfl) (by kernel_rfl) (fun _ _ _ h => h) (Or.inl ⟨by rfl, ?_⟩) ?_
                          · intro w'; go_simp
                          simp only [Act.put, List.setIfInBounds_toArray, List.set_cons_zero, List.set_cons_succ]
                          refine wpAnyL_all [30] (by kernel_rfl) (by simp) ?_
                          refine lateCons ?_ lateNil
                          refine wpOpL_step _ rfl (fun K' hK => ?_)
                          go_simp
                          refine hK.out _ _ (fun h => absurd h (by decide)) ?_
                          clear hK K'
                          try simp only [Act.put, List.setIfInBounds_toArray, List.set_cons_zero, List.set_cons_succ]
                          refine wpAnyL_done (by kernel_rfl) ?_ _
                          dsimp only [NoPanic]
                          go_wp2_with fail
                          go_meet
                          exact ⟨_, _, _, _, _, _, _, hfin.1, hfin.2⟩
                    · refine wpOpL_step _ rfl (fun K' hK => ?_)
                      refine App3.litThen kH ((0, 0, 0) : Hd) (cs := #[.int .i64 0, .int .i64 0, .int .i64 0]) rfl 81 rfl G3 ?_
                      intro u4 pH e1 e2 G4 LH s4
                      have LU := LU.keep s4 h0
                      go_simp
                      try rw [e1]
                      try rw [e2]
                      refine hK.out _ _ (fun _ => G4.S) ?_
                      clear hK K' G3 s4
                      try simp only [Act.put, List.setIfInBounds_toArray, List.set_cons_zero, List.set_cons_succ]
                      refine wpAnyL_all [14] (by kernel_rfl) (by simp) ?_
                      refine (lateCons ?_ lateNil)
                      · refine wpOpL_step _ rfl (fun K' hK => ?_)
                        refine App3.stepU rfl (.tmp 92) (.tmp 93) rfl rfl rfl G4 LU hbU hlU (Nat.succ_pos N) ?_
                        intro bU2 cU2 u5 col5 G5 s5
                        have LH := LH.keep s5 h0
                        clear LU
                        refine hK.out _ _ (fun _ => G5.S) ?_
                        clear hK K' G4 s5
                        try simp only [Act.put, List.setIfInBounds_toArray, List.set_cons_zero, List.set_cons_succ]
                        refine wpAnyL_all [21] (by kernel_rfl) (by simp) ?_
                        refine (lateCons ?_ lateNil)
                        · refine wpOpL_step _ rfl (fun K' hK => ?_)
                          refine App3.stepH rfl (.tmp 98) (.tmp 100) rfl rfl rfl G5 LH hbH hlH (Nat.succ_pos N) ?_
                          intro bH2 cH2 u6 col6 G6 s6
                          clear LH
                          refine hK.out _ _ (fun _ => G6.S) ?_
                          clear hK K' G5 s6
                          try simp only [Act.put, List.setIfInBounds_toArray, List.set_cons_zero, List.set_cons_succ]
                          have f2 := G6.box.free 2
                          have f3 := G6.box.free 3
                          have f4 := G6.box.free 4
                          have hfin := G6.fin HN.out
                          obtain ⟨y2, y3, y4⟩ := G6.S
                          refine wpAnyL_takeY 22 _ (.pointer (some ⟨g, 0, none⟩)) rfl (by kernel_rfl) (by kernel_rfl) (by kernel_rfl) (by kernel_rfl) (fun _ _ _ h => h) (Or.inl ⟨by rfl, ?_⟩) ?_
                          · intro w'; go_simp
                          simp only [Act.put, List.setIfInBounds_toArray, List.set_cons_zero, List.set_cons_succ]
                          refine wpAnyL_takeY 23 _ (.pointer (some ⟨g, 2, none⟩)) rfl (by kernel_rfl) (by kernel_rfl) (by kernel_rfl) (by kernel_rfl) (fun _ _ _ h => h) (Or.inl ⟨by rfl, ?_⟩) ?_
                          · intro w'; go_simp
                          simp only [Act.put, List.setIfInBounds_toArray, List.set_cons_zero, List.set_cons_succ]
                          refine wpAnyL_all [24] (by kernel_rfl) (by simp) ?_
                          refine lateCons ?_ lateNil
                          refine wpOpL_step _ rfl (fun K' hK => ?_)
                          go_simp
                          refine hK.out _ _ (fun h => absurd h (by decide)) ?_
                          clear hK K'
                          try simp only [Act.put, List.setIfInBounds_toArray, List.set_cons_zero, List.set_cons_succ]
                          refine wpAnyL_takeY 25 _ (.pointer (some ⟨g, 0, none⟩)) rfl (by kernel_rfl) (by kernel_rfl) (by kernel_rfl) (by kernel_rfl) (fun _ _ _ h => h) (Or.inl ⟨by rfl, ?_⟩) ?_
                          · intro w'; go_simp
                          simp only [Act.put, List.setIfInBounds_toArray, List.set_cons_zero, List.set_cons_succ]
                          refine wpAnyL_takeY 26 _ (.pointer (some ⟨g, 3, none⟩)) rfl (by kernel_rfl) (by kernel_rfl) (by kernel_rfl) (by kernel_rfl) (fun _ _ _ h => h) (Or.inl ⟨by rfl, ?_⟩) ?_
                          · intro w'; go_simp
                          simp only [Act.put, List.setIfInBounds_toArray, List.set_cons_zero, List.set_cons_succ]
                          refine wpAnyL_all [27] (by kernel_rfl) (by simp) ?_
                          refine lateCons ?_ lateNil
                          refine wpOpL_step _ rfl (fun K' hK => ?_)
                          go_simp
                          refine hK.out _ _ (fun h => absurd h (by decide)) ?_
                          clear hK K'
                          try simp only [Act.put, List.setIfInBounds_toArray, List.set_cons_zero, List.set_cons_succ]
                          refine wpAnyL_takeY 28 _ (.pointer (some ⟨g, 0, none⟩)) rfl (by kernel_rfl) (by kernel_rfl) (by kernel_rfl) (by kernel_rfl) (fun _ _ _ h => h) (Or.inl ⟨by rfl, ?_⟩) ?_
                          · intro w'; go_simp
                          simp only [Act.put, List.setIfInBounds_toArray, List.set_cons_zero, List.set_cons_succ]
                          refine wpAnyL_takeY 29 _ (.pointer (some ⟨g, 4, none⟩)) rfl (by kernel_rfl) (by kernel_rfl) (by kernel_rfl) (by kernel_rfl) (fun _ _ _ h => h) (Or.inl ⟨by rfl, ?_⟩) ?_
                          · intro w'; go_simp
                          simp only [Act.put, List.setIfInBounds_toArray, List.set_cons_zero, List.set_cons_succ]
                          refine wpAnyL_all [30] (by kernel_rfl) (by simp) ?_
                          refine lateCons ?_ lateNil
                          refine wpOpL_step _ rfl (fun K' hK => ?_)
                          go_simp
                          refine hK.out _ _ (fun h => absurd h (by decide)) ?_
                          clear hK K'
                          try simp only [Act.put, List.setIfInBounds_toArray, List.set_cons_zero, List.set_cons_succ]
                          refine wpAnyL_done (by kernel_rfl) ?_ _
                          dsimp only [NoPanic]
                          go_wp2_with fail
                          go_meet
                          exact ⟨_, _, _, _, _, _, _, hfin.1, hfin.2⟩
                  · refine wpOpL_step _ rfl (fun K' hK => ?_)
                    refine App3.litThen kH ((0, 0, 0) : Hd) (cs := #[.int .i64 0, .int .i64 0, .int .i64 0]) rfl 81 rfl G2 ?_
                    intro u3 pH e1 e2 G3 LH s3
                    have LU := LU.keep s3 h0
                    have LK := LK.keep s3 h0
                    go_simp
                    try rw [e1]
                    try rw [e2]
                    refine hK.out _ _ (fun _ => G3.S) ?_
                    clear hK K' G2 s3
                    try simp only [Act.put, List.setIfInBounds_toArray, List.set_cons_zero, List.set_cons_succ]
                    refine wpAnyL_all [8] (by kernel_rfl) (by simp) ?_
                    refine (lateCons ?_ lateNil)
                    · refine wpOpL_step _ rfl (fun K' hK => ?_)
                      refine App3.stepK rfl (.tmp 86) (.tmp 87) rfl rfl rfl G3 LK hbK hlK (Nat.succ_pos N) ?_
                      intro bK2 cK2 u4 col4 G4 s4
                      have LU := LU.keep s4 h0
                      have LH := LH.keep s4 h0
                      clear LK
                      refine hK.out _ _ (fun _ => G4.S) ?_
                      clear hK K' G3 s4
                      try simp only [Act.put, List.setIfInBounds_toArray, List.set_cons_zero, List.set_cons_succ]
                      refine wpAnyL_all [14] (by kernel_rfl) (by simp) ?_
                      refine (lateCons ?_ lateNil)
                      · refine wpOpL_step _ rfl (fun K' hK => ?_)
                        refine App3.stepU rfl (.tmp 92) (.tmp 93) rfl rfl rfl G4 LU hbU hlU (Nat.succ_pos N) ?_
                        intro bU2 cU2 u5 col5 G5 s5
                        have LH := LH.keep s5 h0
                        clear LU
                        refine hK.out _ _ (fun _ => G5.S) ?_
                        clear hK K' G4 s5
                        try simp only [Act.put, List.setIfInBounds_toArray, List.set_cons_zero, List.set_cons_succ]
                        refine wpAnyL_all [21] (by kernel_rfl) (by simp) ?_
                        refine (lateCons ?_ lateNil)
                        · refine wpOpL_step _ rfl (fun K' hK => ?_)
                          refine App3.stepH rfl (.tmp 98) (.tmp 100) rfl rfl rfl G5 LH hbH hlH (Nat.succ_pos N) ?_
                          intro bH2 cH2 u6 col6 G6 s6
                          clear LH
                          refine hK.out _ _ (fun _ => G6.S) ?_
                          clear hK K' G5 s6
                          try simp only [Act.put, List.setIfInBounds_toArray, List.set_cons_zero, List.set_cons_succ]
                          have f2 := G6.box.free 2
                          have f3 := G6.box.free 3
                          have f4 := G6.box.free 4
                          have hfin := G6.fin HN.out
                          obtain ⟨y2, y3, y4⟩ := G6.S
                          refine wpAnyL_takeY 22 _ (.pointer (some ⟨g, 0, none⟩)) rfl (by kernel_rfl) (by kernel_rfl) (by kernel_rfl) (by kernel_rfl) (fun _ _ _ h => h) (Or.inl ⟨by rfl, ?_⟩) ?_
                          · intro w'; go_simp
                          simp only [Act.put, List.setIfInBounds_toArray, List.set_cons_zero, List.set_cons_succ]
                          refine wpAnyL_takeY 23 _ (.pointer (some ⟨g, 2, none⟩)) rfl (by kernel_rfl) (by kernel_rfl) (by kernel_rfl) (by kernel_rfl) (fun _ _ _ h => h) (Or.inl ⟨by rfl, ?_⟩) ?_
                          · intro w'; go_simp
                          simp only [Act.put, List.setIfInBounds_toArray, List.set_cons_zero, List.set_cons_succ]
                          refine wpAnyL_all [24] (by kernel_rfl) (by simp) ?_
                          refine lateCons ?_ lateNil
                          refine wpOpL_step _ rfl (fun K' hK => ?_)
                          go_simp
                          refine hK.out _ _ (fun h => absurd h (by decide)) ?_
                          clear hK K'
                          try simp only [Act.put, List.setIfInBounds_toArray, List.set_cons_zero, List.set_cons_succ]
                          refine wpAnyL_takeY 25 _ (.pointer (some ⟨g, 0, none⟩)) rfl (by kernel_rfl) (by kernel_rfl) (by kernel_rfl) (by kernel_rfl) (fun _ _ _ h => h) (Or.inl ⟨by rfl, ?_⟩) ?_
                          · intro w'; go_simp
                          simp only [Act.put, List.setIfInBounds_toArray, List.set_cons_zero, List.set_cons_succ]
                          refine wpAnyL_takeY 26 _ (.pointer (some ⟨g, 3, none⟩)) rfl (by kernel_rfl) (by kernel_rfl) (by kernel_rfl) (by kernel_rfl) (fun _ _ _ h => h) (Or.inl ⟨by rfl, ?_⟩) ?_
                          · intro w'; go_simp
                          simp only [Act.put, List.setIfInBounds_toArray, List.set_cons_zero, List.set_cons_succ]
                          refine wpAnyL_all [27] (by kernel_rfl) (by simp) ?_
                          refine lateCons ?_ lateNil
                          refine wpOpL_step _ rfl (fun K' hK => ?_)
                          go_simp
                          refine hK.out _ _ (fun h => absurd h (by decide)) ?_
                          clear hK K'
                          try simp only [Act.put, List.setIfInBounds_toArray, List.set_cons_zero, List.set_cons_succ]
                          refine wpAnyL_takeY 28 _ (.pointer (some ⟨g, 0, none⟩)) rfl (by kernel_rfl) (by kernel_rfl) (by kernel_rfl) (by kernel_rfl) (fun _ _ _ h => h) (Or.inl ⟨by rfl, ?_⟩) ?_
                          · intro w'; go_simp
                          simp only [Act.put, List.setIfInBounds_toArray, List.set_cons_zero, List.set_cons_succ]
                          refine wpAnyL_takeY 29 _ (.pointer (some ⟨g, 4, none⟩)) rfl (by kernel_rfl) (by kernel_rfl) (by kernel_rfl) (by kernel_rfl) (fun _ _ _ h => h) (Or.inl ⟨by rfl, ?_⟩) ?_
                          · intro w'; go_simp
                          simp only [Act.put, List.setIfInBounds_toArray, List.set_cons_zero, List.set_cons_succ]
                          refine wpAnyL_all [30] (by kernel_rfl) (by simp) ?_
                          refine lateCons ?_ lateNil
                          refine wpOpL_step _ rfl (fun K' hK => ?_)
                          go_simp
                          refine hK.out _ _ (fun h => absurd h (by decide)) ?_
                          clear hK K'
                          try simp only [Act.put, List.setIfInBounds_toArray, List.set_cons_zero, List.set_cons_succ]
                          refine wpAnyL_done (by kernel_rfl) ?_ _
                          dsimp only [NoPanic]
                          go_wp2_with fail
                          go_meet
                          exact ⟨_, _, _, _, _, _, _, hfin.1, hfin.2⟩
                · refine wpOpL_step _ rfl (fun K' hK => ?_)
                  refine App3.litThen kH ((0, 0, 0) : Hd) (cs := #[.int .i64 0, .int .i64 0, .int .i64 0]) rfl 81 rfl G1 ?_
                  intro u2 pH e1 e2 G2 LH s2
                  have LU := LU.keep s2 h0
                  go_simp
                  try rw [e1]
                  try rw [e2]
                  refine hK.out _ _ (fun _ => G2.S) ?_
                  clear hK K' G1 s2
                  try simp only [Act.put, List.setIfInBounds_toArray, List.set_cons_zero, List.set_cons_succ]
                  refine wpAnyL_all [7] (by kernel_rfl) (by simp) ?_
                  refine (lateCons ?_ lateNil)
                  · refine wpOpL_step _ rfl (fun K' hK => ?_)
                    refine App3.litThen kT (⟨#[]⟩ : ByteArray) (cs := #[.string ⟨#[]⟩]) rfl 9 rfl G2 ?_
                    intro u3 pK e1 e2 G3 LK s3
                    have LU := LU.keep s3 h0
                    have LH := LH.keep s3 h0
                    go_simp
                    try rw [e1]
                    try rw [e2]
                    refine hK.out _ _ (fun _ => G3.S) ?_
                    clear hK K' G2 s3
                    try simp only [Act.put, List.setIfInBounds_toArray, List.set_cons_zero, List.set_cons_succ]
                    refine wpAnyL_all [8] (by kernel_rfl) (by simp) ?_
                    refine (lateCons ?_ lateNil)
                    · refine wpOpL_step _ rfl (fun K' hK => ?_)
                      refine App3.stepK rfl (.tmp 86) (.tmp 87) rfl rfl rfl G3 LK hbK hlK (Nat.succ_pos N) ?_
                      intro bK2 cK2 u4 col4 G4 s4
                      have LU := LU.keep s4 h0
                      have LH := LH.keep s4 h0
                      clear LK
                      refine hK.out _ _ (fun _ => G4.S) ?_
                      clear hK K' G3 s4
                      try simp only [Act.put, List.setIfInBounds_toArray, List.set_cons_zero, List.set_cons_succ]
                      refine wpAnyL_all [14] (by kernel_rfl) (by simp) ?_
                      refine (lateCons ?_ lateNil)
                      · refine wpOpL_step _ rfl (fun K' hK => ?_)
                        refine App3.stepU rfl (.tmp 92) (.tmp 93) rfl rfl rfl G4 LU hbU hlU (Nat.succ_pos N) ?_
                        intro bU2 cU2 u5 col5 G5 s5
                        have LH := LH.keep s5 h0
                        clear LU
                        refine hK.out _ _ (fun _ => G5.S) ?_
                        clear hK K' G4 s5
                        try simp only [Act.put, List.setIfInBounds_toArray, List.set_cons_zero, List.set_cons_succ]
                        refine wpAnyL_all [21] (by kernel_rfl) (by simp) ?_
                        refine (lateCons ?_ lateNil)
                        · refine wpOpL_step _ rfl (fun K' hK => ?_)
                          refine App3.stepH rfl (.tmp 98) (.tmp 100) rfl rfl rfl G5 LH hbH hlH (Nat.succ_pos N) ?_
                          intro bH2 cH2 u6 col6 G6 s6
                          clear LH
                          refine hK.out _ _ (fun _ => G6.S) ?_
                          clear hK K' G5 s6
                          try simp only [Act.put, List.setIfInBounds_toArray, List.set_cons_zero, List.set_cons_succ]
                          have f2 := G6.box.free 2
                          have f3 := G6.box.free 3
                          have f4 := G6.box.free 4
                          have hfin := G6.fin HN.out
                          obtain ⟨y2, y3, y4⟩ := G6.S
                          refine wpAnyL_takeY 22 _ (.pointer (some ⟨g, 0, none⟩)) rfl (by kernel_rfl) (by kernel_rfl) (by kernel_rfl) (by kernel_rfl) (fun _ _ _ h => h) (Or.inl ⟨by rfl, ?_⟩) ?_
                          · intro w'; go_simp
                          simp only [Act.put, List.setIfInBounds_toArray, List.set_cons_zero, List.set_cons_succ]
                          refine wpAnyL_takeY 23 _ (.pointer (some ⟨g, 2, none⟩)) rfl (by kernel_rfl) (by kernel_rfl) (by kernel_rfl) (by kernel_rfl) (fun _ _ _ h => h) (Or.inl ⟨by rfl, ?_⟩) ?_
                          · intro w'; go_simp
                          simp only [Act.put, List.setIfInBounds_toArray, List.set_cons_zero, List.set_cons_succ]
                          refine wpAnyL_all [24] (by kernel_rfl) (by simp) ?_
                          refine lateCons ?_ lateNil
                          refine wpOpL_step _ rfl (fun K' hK => ?_)
                          go_simp
                          refine hK.out _ _ (fun h => absurd h (by decide)) ?_
                          clear hK K'
                          try simp only [Act.put, List.setIfInBounds_toArray, List.set_cons_zero, List.set_cons_succ]
                          refine wpAnyL_takeY 25 _ (.pointer (some ⟨g, 0, none⟩)) rfl (by kernel_rfl) (by kernel_rfl) (by kernel_rfl) (by kernel_rfl) (fun _ _ _ h => h) (Or.inl ⟨by rfl, ?_⟩) ?_
                          · intro w'; go_simp
                          simp only [Act.put, List.setIfInBounds_toArray, List.set_cons_zero, List.set_cons_succ]
                          refine wpAnyL_takeY 26 _ (.pointer (some ⟨g, 3, none⟩)) rfl (by kernel_rfl) (by kernel_rfl) (by kernel_rfl) (by kernel_rfl) (fun _ _ _ h => h) (Or.inl ⟨by rfl, ?_⟩) ?_
                          · intro w'; go_simp
                          simp only [Act.put, List.setIfInBounds_toArray, List.set_cons_zero, List.set_cons_succ]
                          refine wpAnyL_all [27] (by kernel_rfl) (by simp) ?_
                          refine lateCons ?_ lateNil
                          refine wpOpL_step _ rfl (fun K' hK => ?_)
                          go_simp
                          refine hK.out _ _ (fun h => absurd h (by decide)) ?_
                          clear hK K'
                          try simp only [Act.put, List.setIfInBounds_toArray, List.set_cons_zero, List.set_cons_succ]
                          refine wpAnyL_takeY 28 _ (.pointer (some ⟨g, 0, none⟩)) rfl (by kernel_rfl) (by kernel_rfl) (by kernel_rfl) (by kernel_rfl) (fun _ _ _ h => h) (Or.inl ⟨by rfl, ?_⟩) ?_
                          · intro w'; go_simp
                          simp only [Act.put, List.setIfInBounds_toArray, List.set_cons_zero, List.set_cons_succ]
                          refine wpAnyL_takeY 29 _ (.pointer (some ⟨g, 4, none⟩)) rfl (by kernel_rfl) (by kernel_rfl) (by kernel_rfl) (by kernel_rfl) (fun _ _ _ h => h) (Or.inl ⟨by rfl, ?_⟩) ?_
                          · intro w'; go_simp
                          simp only [Act.put, List.setIfInBounds_toArray, List.set_cons_zero, List.set_cons_succ]
                          refine wpAnyL_all [30] (by kernel_rfl) (by simp) ?_
                          refine lateCons ?_ lateNil
                          refine wpOpL_step _ rfl (fun K' hK => ?_)
                          go_simp
                          refine hK.out _ _ (fun h => absurd h (by decide)) ?_
                          clear hK K'
                          try simp only [Act.put, List.setIfInBounds_toArray, List.set_cons_zero, List.set_cons_succ]
                          refine wpAnyL_done (by kernel_rfl) ?_ _
                          dsimp only [NoPanic]
                          go_wp2_with fail
                          go_meet
                          exact ⟨_, _, _, _, _, _, _, hfin.1, hfin.2⟩
              · refine wpOpL_step _ rfl (fun K' hK => ?_)
                refine App3.litThen kH ((0, 0, 0) : Hd) (cs := #[.int .i64 0, .int .i64 0, .int .i64 0]) rfl 81 rfl G0 ?_
                intro u1 pH e1 e2 G1 LH s1
                go_simp
                try rw [e1]
                try rw [e2]
                refine hK.out _ _ (fun _ => G1.S) ?_
                clear hK K' G0 s1
                try simp only [Act.put, List.setIfInBounds_toArray, List.set_cons_zero, List.set_cons_succ]
                refine wpAnyL_all [7, 13] (by kernel_rfl) (by simp) ?_
                refine (lateCons ?_ (lateCons ?_ lateNil))
                · refine wpOpL_step _ rfl (fun K' hK => ?_)
                  refine App3.litThen kT (⟨#[]⟩ : ByteArray) (cs := #[.string ⟨#[]⟩]) rfl 9 rfl G1 ?_
                  intro u2 pK e1 e2 G2 LK s2
                  have LH := LH.keep s2 h0
                  go_simp
                  try rw [e1]
                  try rw [e2]
                  refine hK.out _ _ (fun _ => G2.S) ?_
                  clear hK K' G1 s2
                  try simp only [Act.put, List.setIfInBounds_toArray, List.set_cons_zero, List.set_cons_succ]
                  refine wpAnyL_all [8, 13] (by kernel_rfl) (by simp) ?_
                  refine (lateCons ?_ (lateCons ?_ lateNil))
                  · refine wpOpL_step _ rfl (fun K' hK => ?_)
                    refine App3.stepK rfl (.tmp 86) (.tmp 87) rfl rfl rfl G2 LK hbK hlK (Nat.succ_pos N) ?_
                    intro bK2 cK2 u3 col3 G3 s3
                    have LH := LH.keep s3 h0
                    clear LK
                    refine hK.out _ _ (fun _ => G3.S) ?_
                    clear hK K' G2 s3
                    try simp only [Act.put, List.setIfInBounds_toArray, List.set_cons_zero, List.set_cons_succ]
                    refine wpAnyL_all [13] (by kernel_rfl) (by simp) ?_
                    refine (lateCons ?_ lateNil)
                    · refine wpOpL_step _ rfl (fun K' hK => ?_)
                      refine App3.litThen kI (0 : Int) (cs := #[.int .i64 0]) rfl 3 rfl G3 ?_
                      intro u4 pU e1 e2 G4 LU s4
                      have LH := LH.keep s4 h0
                      go_simp
                      try rw [e1]
                      try rw [e2]
                      refine hK.out _ _ (fun _ => G4.S) ?_
                      clear hK K' G3 s4
                      try simp only [Act.put, List.setIfInBounds_toArray, List.set_cons_zero, List.set_cons_succ]
                      refine wpAnyL_all [14] (by kernel_rfl) (by simp) ?_
                      refine (lateCons ?_ lateNil)
                      · refine wpOpL_step _ rfl (fun K' hK => ?_)
                        refine App3.stepU rfl (.tmp 92) (.tmp 93) rfl rfl rfl G4 LU hbU hlU (Nat.succ_pos N) ?_
                        intro bU2 cU2 u5 col5 G5 s5
                        have LH := LH.keep s5 h0
                        clear LU
                        refine hK.out _ _ (fun _ => G5.S) ?_
                        clear hK K' G4 s5
                        try simp only [Act.put, List.setIfInBounds_toArray, List.set_cons_zero, List.set_cons_succ]
                        refine wpAnyL_all [21] (by kernel_rfl) (by simp) ?_
                        refine (lateCons ?_ lateNil)
                        · refine wpOpL_step _ rfl (fun K' hK => ?_)
                          refine App3.stepH rfl (.tmp 98) (.tmp 100) rfl rfl rfl G5 LH hbH hlH (Nat.succ_pos N) ?_
                          intro bH2 cH2 u6 col6 G6 s6
                          clear LH
                          refine hK.out _ _ (fun _ => G6.S) ?_
                          clear hK K' G5 s6
                          try simp only [Act.put, List.setIfInBounds_toArray, List.set_cons_zero, List.set_cons_succ]
                          have f2 := G6.box.free 2
                          have f3 := G6.box.free 3
                          have f4 := G6.box.free 4
                          have hfin := G6.fin HN.out
                          obtain ⟨y2, y3, y4⟩ := G6.S
                          refine wpAnyL_takeY 22 _ (.pointer (some ⟨g, 0, none⟩)) rfl (by kernel_rfl) (by kernel_rfl) (by kernel_rfl) (by kernel_rfl) (fun _ _ _ h => h) (Or.inl ⟨by rfl, ?_⟩) ?_
                          · intro w'; go_simp
                          simp only [Act.put, List.setIfInBounds_toArray, List.set_cons_zero, List.set_cons_succ]
                          refine wpAnyL_takeY 23 _ (.pointer (some ⟨g, 2, none⟩)) rfl (by kernel_rfl) (by kernel_rfl) (by kernel_rfl) (by kernel_rfl) (fun _ _ _ h => h) (Or.inl ⟨by rfl, ?_⟩) ?_
                          · intro w'; go_simp
                          simp only [Act.put, List.setIfInBounds_toArray, List.set_cons_zero, List.set_cons_succ]
                          refine wpAnyL_all [24] (by kernel_rfl) (by simp) ?_
                          refine lateCons ?_ lateNil
                          refine wpOpL_step _ rfl (fun K' hK => ?_)
                          go_simp
                          refine hK.out _ _ (fun h => absurd h (by decide)) ?_
                          clear hK K'
                          try simp only [Act.put, List.setIfInBounds_toArray, List.set_cons_zero, List.set_cons_succ]
                          refine wpAnyL_takeY 25 _ (.pointer (some ⟨g, 0, none⟩)) rfl (by kernel_rfl) (by kernel_rfl) (by kernel_rfl) (by kernel_rfl) (fun _ _ _ h => h) (Or.inl ⟨by rfl, ?_⟩) ?_
                          · intro w'; go_simp
                          simp only [Act.put, List.setIfInBounds_toArray, List.set_cons_zero, List.set_cons_succ]
                          refine wpAnyL_takeY 26 _ (.pointer (some ⟨g, 3, none⟩)) rfl (by kernel_rfl) (by kernel_rfl) (by kernel_rfl) (by kernel_rfl) (fun _ _ _ h => h) (Or.inl ⟨by rfl, ?_⟩) ?_
                          · intro w'; go_simp
                          simp only [Act.put, List.setIfInBounds_toArray, List.set_cons_zero, List.set_cons_succ]
                          refine wpAnyL_all [27] (by kernel_rfl) (by simp) ?_
                          refine lateCons ?_ lateNil
                          refine wpOpL_step _ rfl (fun K' hK => ?_)
                          go_simp
                          refine hK.out _ _ (fun h => absurd h (by decide)) ?_
                          clear hK K'
                          try simp only [Act.put, List.setIfInBounds_toArray, List.set_cons_zero, List.set_cons_succ]
                          refine wpAnyL_takeY 28 _ (.pointer (some ⟨g, 0, none⟩)) rfl (by kernel_rfl) (by kernel_rfl) (by kernel_rfl) (by kernel_rfl) (fun _ _ _ h => h) (Or.inl ⟨by rfl, ?_⟩) ?_
                          · intro w'; go_simp
                          simp only [Act.put, List.setIfInBounds_toArray, List.set_cons_zero, List.set_cons_succ]
                          refine wpAnyL_takeY 29 _ (.pointer (some ⟨g, 4, none⟩)) rfl (by kernel_rfl) (by kernel_rfl) (by kernel_rfl) (by kernel_rfl) (fun _ _ _ h => h) (Or.inl ⟨by rfl, ?_⟩) ?_
                          · intro w'; go_simp
                          simp only [Act.put, List.setIfInBounds_toArray, List.set_cons_zero, List.set_cons_succ]
                          refine wpAnyL_all [30] (by kernel_rfl) (by simp) ?_
                          refine lateCons ?_ lateNil
                          refine wpOpL_step _ rfl (fun K' hK => ?_)
                          go_simp
                          refine hK.out _ _ (fun h => absurd h (by decide)) ?_
                          clear hK K'
                          try simp only [Act.put, List.setIfInBounds_toArray, List.set_cons_zero, List.set_cons_succ]
                          refine wpAnyL_done (by kernel_rfl) ?_ _
                          dsimp only [NoPanic]
                          go_wp2_with fail
                          go_meet
                          exact ⟨_, _, _, _, _, _, _, hfin.1, hfin.2⟩
                  · refine wpOpL_step _ rfl (fun K' hK => ?_)
                    refine App3.litThen kI (0 : Int) (cs := #[.int .i64 0]) rfl 3 rfl G2 ?_
                    intro u3 pU e1 e2 G3 LU s3
                    have LH := LH.keep s3 h0
                    have LK := LK.keep s3 h0
                    go_simp
                    try rw [e1]
                    try rw [e2]
                    refine hK.out _ _ (fun _ => G3.S) ?_
                    clear hK K' G2 s3
                    try simp only [Act.put, List.setIfInBounds_toArray, List.set_cons_zero, List.set_cons_succ]
                    refine wpAnyL_all [8] (by kernel_rfl) (by simp) ?_
                    refine (lateCons ?_ lateNil)
                    · refine wpOpL_step _ rfl (fun K' hK => ?_)
                      refine App3.stepK rfl (.tmp 86) (.tmp 87) rfl rfl rfl G3 LK hbK hlK (Nat.succ_pos N) ?_
                      intro bK2 cK2 u4 col4 G4 s4
                      have LH := LH.keep s4 h0
                      have LU := LU.keep s4 h0
                      clear LK
                      refine hK.out _ _ (fun _ => G4.S) ?_
                      clear hK K' G3 s4
                      try simp only [Act.put, List.setIfInBounds_toArray, List.set_cons_zero, List.set_cons_succ]
                      refine wpAnyL_all [14] (by kernel_rfl) (by simp) ?_
                      refine (lateCons ?_ lateNil)
                      · refine wpOpL_step _ rfl (fun K' hK => ?_)
                        refine App3.stepU rfl (.tmp 92) (.tmp 93) rfl rfl rfl G4 LU hbU hlU (Nat.succ_pos N) ?_
                        intro bU2 cU2 u5 col5 G5 s5
                        have LH := LH.keep s5 h0
                        clear LU
                        refine hK.out _ _ (fun _ => G5.S) ?_
                        clear hK K' G4 s5
                        try simp only [Act.put, List.setIfInBounds_toArray, List.set_cons_zero, List.set_cons_succ]
                        refine wpAnyL_all [21] (by kernel_rfl) (by simp) ?_
                        refine (lateCons ?_ lateNil)
                        · refine wpOpL_step _ rfl (fun K' hK => ?_)
                          refine App3.stepH rfl (.tmp 98) (.tmp 100) rfl rfl rfl G5 LH hbH hlH (Nat.succ_pos N) ?_
                          intro bH2 cH2 u6 col6 G6 s6
                          clear LH
                          refine hK.out _ _ (fun _ => G6.S) ?_
                          clear hK K' G5 s6
                          try simp only [Act.put, List.setIfInBounds_toArray, List.set_cons_zero, List.set_cons_succ]
                          have f2 := G6.box.free 2
                          have f3 := G6.box.free 3
                          have f4 := G6.box.free 4
                          have hfin := G6.fin HN.out
                          obtain ⟨y2, y3, y4⟩ := G6.S
                          refine wpAnyL_takeY 22 _ (.pointer (some ⟨g, 0, none⟩)) rfl (by kernel_rfl) (by kernel_rfl) (by kernel_rfl) (by kernel_rfl) (fun _ _ _ h => h) (Or.inl ⟨by rfl, ?_⟩) ?_
                          · intro w'; go_simp
                          simp only [Act.put, List.setIfInBounds_toArray, List.set_cons_zero, List.set_cons_succ]
                          refine wpAnyL_takeY 23 _ (.pointer (some ⟨g, 2, none⟩)) rfl (by kernel_rfl) (by kernel_rfl) (by kernel_rfl) (by kernel_rfl) (fun _ _ _ h => h) (Or.inl ⟨by rfl, ?_⟩) ?_
                          · intro w'; go_simp
                          simp only [Act.put, List.setIfInBounds_toArray, List.set_cons_zero, List.set_cons_succ]
                          refine wpAnyL_all [24] (by kernel_rfl) (by simp) ?_
                          refine lateCons ?_ lateNil
                          refine wpOpL_step _ rfl (fun K' hK => ?_)
                          go_simp
                          refine hK.out _ _ (fun h => absurd h (by decide)) ?_
                          clear hK K'
                          try simp only [Act.put, List.setIfInBounds_toArray, List.set_cons_zero, List.set_cons_succ]
                          refine wpAnyL_takeY 25 _ (.pointer (some ⟨g, 0, none⟩)) rfl (by kernel_rfl) (by kernel_rfl) (by kernel_rfl) (by kernel_rfl) (fun _ _ _ h => h) (Or.inl ⟨by rfl, ?_⟩) ?_
                          · intro w'; go_simp
                          simp only [Act.put, List.setIfInBounds_toArray, List.set_cons_zero, List.set_cons_succ]
                          refine wpAnyL_takeY 26 _ (.pointer (some ⟨g, 3, none⟩)) rfl (by kernel_rfl) (by kernel_rfl) (by kernel_rfl) (by kernel_rfl) (fun _ _ _ h => h) (Or.inl ⟨by rfl, ?_⟩) ?_
                          · intro w'; go_simp
                          simp only [Act.put, List.setIfInBounds_toArray, List.set_cons_zero, List.set_cons_succ]
                          refine wpAnyL_all [27] (by kernel_rfl) (by simp) ?_
                          refine lateCons ?_ lateNil
                          refine wpOpL_step _ rfl (fun K' hK => ?_)
                          go_simp
                          refine hK.out _ _ (fun h => absurd h (by decide)) ?_
                          clear hK K'
                          try simp only [Act.put, List.setIfInBounds_toArray, List.set_cons_zero, List.set_cons_succ]
                          refine wpAnyL_takeY 28 _ (.pointer (some ⟨g, 0, none⟩)) rfl (by kernel_rfl) (by kernel_rfl) (by kernel_rfl) (by kernel_rfl) (fun _ _ _ h => h) (Or.inl ⟨by rfl, ?_⟩) ?_
                          · intro w'; go_simp
                          simp only [Act.put, List.setIfInBounds_toArray, List.set_cons_zero, List.set_cons_succ]
                          refine wpAnyL_takeY 29 _ (.pointer (some ⟨g, 4, none⟩)) rfl (by kernel_rfl) (by kernel_rfl) (by kernel_rfl) (by kernel_rfl) (fun _ _ _ h => h) (Or.inl ⟨by rfl, ?_⟩) ?_
                          · intro w'; go_simp
                          simp only [Act.put, List.setIfInBounds_toArray, List.set_cons_zero, List.set_cons_succ]
                          refine wpAnyL_all [30] (by kernel_rfl) (by simp) ?_
                          refine lateCons ?_ lateNil
                          refine wpOpL_step _ rfl (fun K' hK => ?_)
                          go_simp
                          refine hK.out _ _ (fun h => absurd h (by decide)) ?_
                          clear hK K'
                          try simp only [Act.put, List.setIfInBounds_toArray, List.set_cons_zero, List.set_cons_succ]
                          refine wpAnyL_done (by kernel_rfl) ?_ _
                          dsimp only [NoPanic]
                          go_wp2_with fail
                          go_meet
                          exact ⟨_, _, _, _, _, _, _, hfin.1, hfin.2⟩
                · refine wpOpL_step _ rfl (fun K' hK => ?_)
                  refine App3.litThen kI (0 : Int) (cs := #[.int .i64 0]) rfl 3 rfl G1 ?_
                  intro u2 pU e1 e2 G2 LU s2
                  have LH := LH.keep s2 h0
                  go_simp
                  try rw [e1]
                  try rw [e2]
                  refine hK.out _ _ (fun _ => G2.S) ?_
                  clear hK K' G1 s2
                  try simp only [Act.put, List.setIfInBounds_toArray, List.set_cons_zero, List.set_cons_succ]
                  refine wpAnyL_all [7] (by kernel_rfl) (by simp) ?_
                  refine (lateCons ?_ lateNil)
                  · refine wpOpL_step _ rfl (fun K' hK => ?_)
                    refine App3.litThen kT (⟨#[]⟩ : ByteArray) (cs := #[.string ⟨#[]⟩]) rfl 9 rfl G2 ?_
                    intro u3 pK e1 e2 G3 LK s3
                    have LH := LH.keep s3 h0
                    have LU := LU.keep s3 h0
                    go_simp
                    try rw [e1]
                    try rw [e2]
                    refine hK.out _ _ (fun _ => G3.S) ?_
                    clear hK K' G2 s3
                    try simp only [Act.put, List.setIfInBounds_toArray, List.set_cons_zero, List.set_cons_succ]
                    refine wpAnyL_all [8] (by kernel_rfl) (by simp) ?_
                    refine (lateCons ?_ lateNil)
                    · refine wpOpL_step _ rfl (fun K' hK => ?_)
                      refine App3.stepK rfl (.tmp 86) (.tmp 87) rfl rfl rfl G3 LK hbK hlK (Nat.succ_pos N) ?_
                      intro bK2 cK2 u4 col4 G4 s4
                      have LH := LH.keep s4 h0
                      have LU := LU.keep s4 h0
                      clear LK
                      refine hK.out _ _ (fun _ => G4.S) ?_
                      clear hK K' G3 s4
                      try simp only [Act.put, List.setIfInBounds_toArray, List.set_cons_zero, List.set_cons_succ]
                      refine wpAnyL_all [14] (by kernel_rfl) (by simp) ?_
                      refine (lateCons ?_ lateNil)
                      · refine wpOpL_step _ rfl (fun K' hK => ?_)
                        refine App3.stepU rfl (.tmp 92) (.tmp 93) rfl rfl rfl G4 LU hbU hlU (Nat.succ_pos N) ?_
                        intro bU2 cU2 u5 col5 G5 s5
                        have LH := LH.keep s5 h0
                        clear LU
                        refine hK.out _ _ (fun _ => G5.S) ?_
                        clear hK K' G4 s5
                        try simp only [Act.put, List.setIfInBounds_toArray, List.set_cons_zero, List.set_cons_succ]
                        refine wpAnyL_all [21] (by kernel_rfl) (by simp) ?_
                        refine (lateCons ?_ lateNil)
                        · refine wpOpL_step _ rfl (fun K' hK => ?_)
                          refine App3.stepH rfl (.tmp 98) (.tmp 100) rfl rfl rfl G5 LH hbH hlH (Nat.succ_pos N) ?_
                          intro bH2 cH2 u6 col6 G6 s6
                          clear LH
                          refine hK.out _ _ (fun _ => G6.S) ?_
                          clear hK K' G5 s6
                          try simp only [Act.put, List.setIfInBounds_toArray, List.set_cons_zero, List.set_cons_succ]
                          have f2 := G6.box.free 2
                          have f3 := G6.box.free 3
                          have f4 := G6.box.free 4
                          have hfin := G6.fin HN.out
                          obtain ⟨y2, y3, y4⟩ := G6.S
                          refine wpAnyL_takeY 22 _ (.pointer (some ⟨g, 0, none⟩)) rfl (by kernel_rfl) (by kernel_rfl) (by kernel_rfl) (by kernel_rfl) (fun _ _ _ h => h) (Or.inl ⟨by rfl, ?_⟩) ?_
                          · intro w'; go_simp
                          simp only [Act.put, List.setIfInBounds_toArray, List.set_cons_zero, List.set_cons_succ]
                          refine wpAnyL_takeY 23 _ (.pointer (some ⟨g, 2, none⟩)) rfl (by kernel_rfl) (by kernel_rfl) (by kernel_rfl) (by kernel_rfl) (fun _ _ _ h => h) (Or.inl ⟨by rfl, ?_⟩) ?_
                          · intro w'; go_simp
                          simp only [Act.put, List.setIfInBounds_toArray, List.set_cons_zero, List.set_cons_succ]
                          refine wpAnyL_all [24] (by kernel_rfl) (by simp) ?_
                          refine lateCons ?_ lateNil
                          refine wpOpL_step _ rfl (fun K' hK => ?_)
                          go_simp
                          refine hK.out _ _ (fun h => absurd h (by decide)) ?_
                          clear hK K'
                          try simp only [Act.put, List.setIfInBounds_toArray, List.set_cons_zero, List.set_cons_succ]
                          refine wpAnyL_takeY 25 _ (.pointer (some ⟨g, 0, none⟩)) rfl (by kernel_rfl) (by kernel_rfl) (by kernel_rfl) (by kernel_rfl) (fun _ _ _ h => h) (Or.inl ⟨by rfl, ?_⟩) ?_
                          · intro w'; go_simp
                          simp only [Act.put, List.setIfInBounds_toArray, List.set_cons_zero, List.set_cons_succ]
                          refine wpAnyL_takeY 26 _ (.pointer (some ⟨g, 3, none⟩)) rfl (by kernel_rfl) (by kernel_rfl) (by kernel_rfl) (by kernel_rfl) (fun _ _ _ h => h) (Or.inl ⟨by rfl, ?_⟩) ?_
                          · intro w'; go_simp
                          simp only [Act.put, List.setIfInBounds_toArray, List.set_cons_zero, List.set_cons_succ]
                          refine wpAnyL_all [27] (by kernel_rfl) (by simp) ?_
                          refine lateCons ?_ lateNil
                          refine wpOpL_step _ rfl (fun K' hK => ?_)
                          go_simp
                          refine hK.out _ _ (fun h => absurd h (by decide)) ?_
                          clear hK K'
                          try simp only [Act.put, List.setIfInBounds_toArray, List.set_cons_zero, List.set_cons_succ]
                          refine wpAnyL_takeY 28 _ (.pointer (some ⟨g, 0, none⟩)) rfl (by kernel_rfl) (by kernel_rfl) (by kernel_rfl) (by kernel_rfl) (fun _ _ _ h => h) (Or.inl ⟨by rfl, ?_⟩) ?_
                          · intro w'; go_simp
                          simp only [Act.put, List.setIfInBounds_toArray, List.set_cons_zero, List.set_cons_succ]
                          refine wpAnyL_takeY 29 _ (.pointer (some ⟨g, 4, none⟩)) rfl (by kernel_rfl) (by kernel_rfl) (by kernel_rfl) (by kernel_rfl) (fun _ _ _ h => h) (Or.inl ⟨by rfl, ?_⟩) ?_
                          · intro w'; go_simp
                          simp only [Act.put, List.setIfInBounds_toArray, List.set_cons_zero, List.set_cons_succ]
                          refine wpAnyL_all [30] (by kernel_rfl) (by simp) ?_
                          refine lateCons ?_ lateNil
                          refine wpOpL_step _ rfl (fun K' hK => ?_)
                          go_simp
                          refine hK.out _ _ (fun h => absurd h (by decide)) ?_
                          clear hK K'
                          try simp only [Act.put, List.setIfInBounds_toArray, List.set_cons_zero, List.set_cons_succ]
                          refine wpAnyL_done (by kernel_rfl) ?_ _
                          dsimp only [NoPanic]
                          go_wp2_with fail
                          go_meet
                          exact ⟨_, _, _, _, _, _, _, hfin.1, hfin.2⟩
            case rest =>
              clear hbK hbU hbH hlK hlU hlH G0 x2 x3 x4
              obtain ⟨col6, b1, c1, b2, c2, b3, c3, H6, S6⟩ := hcut
              subst hN
              have ht6 : Tidy col6 wc := S6.tidy
              have HX := H6.below ht6 (Below.refl _ _).drew
              have htx : Tidy col6 wc.drew := ht6.size (Below.refl wc.heap.size wc).drew.size
              have BX := (B5.keep S6 h0).keep (P := fun _ => False) (StepC.drew ht6) (fun h => h)
              have HAX := (HA5.keep S6 (fun c h1 h2 => hap.no c h2 h1) hap.z1).below' ht6 (Below.refl _ _).drew
              have SX : StepC (fun c => Rng k c ∨ Rng ka c) col w col6 wc.drew := ((S5.mono rng_r).trans (S6.mono rng_l)).trans (StepC.drew ht6)
              have hnx : q.grow.e.length + 1 = q.e.length + 1 + 1 := by simp [PSt.grow]
              have hix : q.e.length < q.grow.e.length := by simp [PSt.grow]
              have hjN : (q.e.length : Int) + 1 < (q.e.length : Int) + 1 + 1 := by omega
              have hjN2 : q.e.length + 1 < q.e.length + 1 + 1 := by omega
              have hjnn : ¬ (q.e.length : Int) + 1 < 0 := by omega
              clear H6 S6 HH5 HA5 B5 S5
              go_wp2
              generalize w4.heap.size = bX at *
              refine wp_region_noPanic ?_
              refine wp_region_late (fun w' => w'.cell? ⟨g, 2, none⟩ = some (.slice (some ⟨b1, 0, none⟩) (q.e.length + 1 + 1) c1) ∧ w'.cell? ⟨g, 3, none⟩ = some (.slice (some ⟨b2, 0, none⟩) (q.e.length + 1 + 1) c2) ∧ w'.cell? ⟨g, 4, none⟩ = some (.slice (some ⟨b3, 0, none⟩) (q.e.length + 1 + 1) c3) ∧ w'.cell? ⟨bX, 0, none⟩ = some (.int .i64 hd.1) ∧ w'.cell? ⟨bX, 1, none⟩ = some (.int .i64 hd.2.1) ∧ w'.cell? ⟨bX, 2, none⟩ = some (.int .i64 hd.2.2)) (fun j => [0, 1, 2, 4, 5, 6, 7, 9, 10, 11, 12, 14, 15, 22].contains j) (by kernel_rfl) ?_
              intro u0 hu0
              rw [hu0] at HX htx BX HAX SX
              have hS : (fun w' => w'.cell? ⟨g, 2, none⟩ = some (.slice (some ⟨b1, 0, none⟩) (q.e.length + 1 + 1) c1) ∧ w'.cell? ⟨g, 3, none⟩ = some (.slice (some ⟨b2, 0, none⟩) (q.e.length + 1 + 1) c2) ∧ w'.cell? ⟨g, 4, none⟩ = some (.slice (some ⟨b3, 0, none⟩) (q.e.length + 1 + 1) c3) ∧ w'.cell? ⟨bX, 0, none⟩ = some (.int .i64 hd.1) ∧ w'.cell? ⟨bX, 1, none⟩ = some (.int .i64 hd.2.1) ∧ w'.cell? ⟨bX, 2, none⟩ = some (.int .i64 hd.2.2)) u0 := by have := HX.s0 BX; rw [hnx] at this; exact this
              have fK := HX.ks.own.free (q.e.length + 1)
              have fU := HX.us.own.free (q.e.length + 1)
              have fH := HX.hs.own.free ((q.e.length + 1) * 3)
              have fH1 := HX.hs.own.free ((q.e.length + 1) * 3 + 1)
              have fH2 := HX.hs.own.free ((q.e.length + 1) * 3 + 2)
              obtain ⟨a1, a2, a3, a4, a5, o1, o2, o3, o4, o5⟩ := HX.old htx hix (.string s) (.int .i64 1)
              clear hu0
              try clear x2 x3 x4
              refine wpAnyL_takeY 0 _ (.pointer (some ⟨g, 0, none⟩)) rfl (by kernel_rfl) (by kernel_rfl) (by kernel_rfl) (by kernel_rfl) (fun _ _ _ h => h) (Or.inl ⟨by rfl, ?_⟩) ?_
              · intro w'; go_simp
              simp only [Act.put, List.setIfInBounds_toArray, List.set_cons_zero, List.set_cons_succ]
              refine wpAnyL_takeY 1 _ (.pointer (some ⟨g, 0, none⟩)) rfl (by kernel_rfl) (by kernel_rfl) (by kernel_rfl) (by kernel_rfl) (fun _ _ _ h => h) (Or.inl ⟨by rfl, ?_⟩) ?_
              · intro w'; go_simp
              simp only [Act.put, List.setIfInBounds_toArray, List.set_cons_zero, List.set_cons_succ]
              refine wpAnyL_takeY 2 _ (.pointer (some ⟨g, 2, none⟩)) rfl (by kernel_rfl) (by kernel_rfl) (by kernel_rfl) (by kernel_rfl) (fun _ _ _ h => h) (Or.inl ⟨by rfl, ?_⟩) ?_
              · intro w'; go_simp
              simp only [Act.put, List.setIfInBounds_toArray, List.set_cons_zero, List.set_cons_succ]
              refine wpAnyL_takeY 4 _ (.int .i64 ((q.e.length : Int) + 1)) rfl (by kernel_rfl) (by kernel_rfl) (by kernel_rfl) (by kernel_rfl) (fun _ _ _ h => h) (Or.inl ⟨by rfl, ?_⟩) ?_
              · intro w'; go_simp
              simp only [Act.put, List.setIfInBounds_toArray, List.set_cons_zero, List.set_cons_succ]
              refine wpAnyL_takeY 5 _ (.pointer (some ⟨g, 0, none⟩)) rfl (by kernel_rfl) (by kernel_rfl) (by kernel_rfl) (by kernel_rfl) (fun _ _ _ h => h) (Or.inl ⟨by rfl, ?_⟩) ?_
              · intro w'; go_simp
              simp only [Act.put, List.setIfInBounds_toArray, List.set_cons_zero, List.set_cons_succ]
              refine wpAnyL_takeY 6 _ (.pointer (some ⟨g, 0, none⟩)) rfl (by kernel_rfl) (by kernel_rfl) (by kernel_rfl) (by kernel_rfl) (fun _ _ _ h => h) (Or.inl ⟨by rfl, ?_⟩) ?_
              · intro w'; go_simp
              simp only [Act.put, List.setIfInBounds_toArray, List.set_cons_zero, List.set_cons_succ]
              refine wpAnyL_takeY 7 _ (.pointer (some ⟨g, 3, none⟩)) rfl (by kernel_rfl) (by kernel_rfl) (by kernel_rfl) (by kernel_rfl) (fun _ _ _ h => h) (Or.inl ⟨by rfl, ?_⟩) ?_
              · intro w'; go_simp
              simp only [Act.put, List.setIfInBounds_toArray, List.set_cons_zero, List.set_cons_succ]
              refine wpAnyL_takeY 9 _ (.int .i64 ((q.e.length : Int) + 1)) rfl (by kernel_rfl) (by kernel_rfl) (by kernel_rfl) (by kernel_rfl) (fun _ _ _ h => h) (Or.inl ⟨by rfl, ?_⟩) ?_
              · intro w'; go_simp
              simp only [Act.put, List.setIfInBounds_toArray, List.set_cons_zero, List.set_cons_succ]
              refine wpAnyL_takeY 10 _ (.pointer (some ⟨g, 0, none⟩)) rfl (by kernel_rfl) (by kernel_rfl) (by kernel_rfl) (by kernel_rfl) (fun _ _ _ h => h) (Or.inl ⟨by rfl, ?_⟩) ?_
              · intro w'; go_simp
              simp only [Act.put, List.setIfInBounds_toArray, List.set_cons_zero, List.set_cons_succ]
              refine wpAnyL_takeY 11 _ (.pointer (some ⟨g, 0, none⟩)) rfl (by kernel_rfl) (by kernel_rfl) (by kernel_rfl) (by kernel_rfl) (fun _ _ _ h => h) (Or.inl ⟨by rfl, ?_⟩) ?_
              · intro w'; go_simp
              simp only [Act.put, List.setIfInBounds_toArray, List.set_cons_zero, List.set_cons_succ]
              refine wpAnyL_takeY 12 _ (.pointer (some ⟨g, 4, none⟩)) rfl (by kernel_rfl) (by kernel_rfl) (by kernel_rfl) (by kernel_rfl) (fun _ _ _ h => h) (Or.inl ⟨by rfl, ?_⟩) ?_
              · intro w'; go_simp
              simp only [Act.put, List.setIfInBounds_toArray, List.set_cons_zero, List.set_cons_succ]
              refine wpAnyL_takeY 14 _ (.int .i64 ((q.e.length : Int) + 1)) rfl (by kernel_rfl) (by kernel_rfl) (by kernel_rfl) (by kernel_rfl) (fun _ _ _ h => h) (Or.inl ⟨by rfl, ?_⟩) ?_
              · intro w'; go_simp
              simp only [Act.put, List.setIfInBounds_toArray, List.set_cons_zero, List.set_cons_succ]
              refine wpAnyL_takeY 15 _ (.string s) rfl (by kernel_rfl) (by kernel_rfl) (by kernel_rfl) (by kernel_rfl) (fun _ _ _ h => h) (Or.inl ⟨by rfl, ?_⟩) ?_
              · intro w'; go_simp
              simp only [Act.put, List.setIfInBounds_toArray, List.set_cons_zero, List.set_cons_succ]
              refine wpAnyL_take 3 _ (.slice (some ⟨b1, 0, none⟩) (q.e.length + 1 + 1) c1) rfl (by kernel_rfl) (by kernel_rfl) (by kernel_rfl) (by kernel_rfl) (fun _ _ _ h => h) (Or.inl ⟨by rfl, ?_⟩) hS ?_
              · intro w' hSw; obtain ⟨x2, x3, x4, z0, z1, z2⟩ := hSw; go_simp
              simp only [Act.put, List.setIfInBounds_toArray, List.set_cons_zero, List.set_cons_succ]
              refine wpAnyL_take 8 _ (.slice (some ⟨b2, 0, none⟩) (q.e.length + 1 + 1) c2) rfl (by kernel_rfl) (by kernel_rfl) (by kernel_rfl) (by kernel_rfl) (fun _ _ _ h => h) (Or.inl ⟨by rfl, ?_⟩) hS ?_
              · intro w' hSw; obtain ⟨x2, x3, x4, z0, z1, z2⟩ := hSw; go_simp
              simp only [Act.put, List.setIfInBounds_toArray, List.set_cons_zero, List.set_cons_succ]
              refine wpAnyL_take 13 _ (.slice (some ⟨b3, 0, none⟩) (q.e.length + 1 + 1) c3) rfl (by kernel_rfl) (by kernel_rfl) (by kernel_rfl) (by kernel_rfl) (fun _ _ _ h => h) (Or.inl ⟨by rfl, ?_⟩) hS ?_
              · intro w' hSw; obtain ⟨x2, x3, x4, z0, z1, z2⟩ := hSw; go_simp
              simp only [Act.put, List.setIfInBounds_toArray, List.set_cons_zero, List.set_cons_succ]
              refine wpAnyL_take 16 _ (.agg #[.int .i64 hd.1, .int .i64 hd.2.1, .int .i64 hd.2.2]) rfl (by kernel_rfl) (by kernel_rfl) (by kernel_rfl) (by kernel_rfl) (fun _ _ _ h => h) (Or.inl ⟨by rfl, ?_⟩) hS ?_
              · intro w' hSw; obtain ⟨x2, x3, x4, z0, z1, z2⟩ := hSw; go_simp
              simp only [Act.put, List.setIfInBounds_toArray, List.set_cons_zero, List.set_cons_succ]
              refine wpAnyL_take 17 _ (.pointer (some ⟨b1, q.e.length + 1, none⟩)) rfl (by kernel_rfl) (by kernel_rfl) (by kernel_rfl) (by kernel_rfl) (fun _ _ _ h => h) (Or.inl ⟨by rfl, ?_⟩) hS ?_
              · intro w' hSw; obtain ⟨x2, x3, x4, z0, z1, z2⟩ := hSw; go_simp
              simp only [Act.put, List.setIfInBounds_toArray, List.set_cons_zero, List.set_cons_succ]
              clear hS
              refine wpAnyL_all [18] (by kernel_rfl) (by simp) ?_
              refine lateCons ?_ lateNil
              refine wpOpL_step _ rfl (fun K' hK => ?_)
              go_simp
              refine hK.out _ _ (fun _ => HX.s1 htx BX hnx) ?_
              clear hK K'
              try simp only [Act.put, List.setIfInBounds_toArray, List.set_cons_zero, List.set_cons_succ]
              refine wpAnyL_take 19 _ (.pointer (some ⟨b2, q.e.length + 1, none⟩)) rfl (by kernel_rfl) (by kernel_rfl) (by kernel_rfl) (by kernel_rfl) (fun _ _ _ h => h) (Or.inl ⟨by rfl, ?_⟩) (HX.s1 htx BX hnx) ?_
              · intro w' hSw; obtain ⟨x2, x3, x4, z0, z1, z2⟩ := hSw; go_simp
              simp only [Act.put, List.setIfInBounds_toArray, List.set_cons_zero, List.set_cons_succ]
              refine wpAnyL_all [20] (by kernel_rfl) (by simp) ?_
              refine lateCons ?_ lateNil
              refine wpOpL_step _ rfl (fun K' hK => ?_)
              go_simp
              refine hK.out _ _ (fun _ => HX.s2 htx BX hnx) ?_
              clear hK K'
              try simp only [Act.put, List.setIfInBounds_toArray, List.set_cons_zero, List.set_cons_succ]
              refine wpAnyL_take 21 _ (.pointer (some ⟨b3, (q.e.length + 1) * 3, none⟩)) rfl (by kernel_rfl) (by kernel_rfl) (by kernel_rfl) (by kernel_rfl) (fun _ _ _ h => h) (Or.inl ⟨by rfl, ?_⟩) (HX.s2 htx BX hnx) ?_
              · intro w' hSw; obtain ⟨x2, x3, x4, z0, z1, z2⟩ := hSw; go_simp
              simp only [Act.put, List.setIfInBounds_toArray, List.set_cons_zero, List.set_cons_succ]
              refine wpAnyL_all [22] (by kernel_rfl) (by simp) ?_
              refine lateCons ?_ lateNil
              refine wpOpL_step _ rfl (fun K' hK => ?_)
              go_simp
              refine hK.out _ _ (fun h => absurd h (by decide)) ?_
              clear hK K'
              try simp only [Act.put, List.setIfInBounds_toArray, List.set_cons_zero, List.set_cons_succ]
              refine wpAnyL_done (by kernel_rfl) ?_ _
              dsimp only [NoPanic]
              obtain ⟨H6, S6⟩ := HX.setEn htx hix s hd (q.t + 1)
              rw [show ((((u0.setCell ⟨b1, q.e.length + 1, none⟩ (.string s)).setCell ⟨b2, q.e.length + 1, none⟩ (.int .i64 1)).setCell ⟨b3, (q.e.length + 1) * 3, none⟩ (.int .i64 hd.1)).setCell ⟨b3, (q.e.length + 1) * 3 + 1, none⟩ (.int .i64 hd.2.1)).setCell ⟨b3, (q.e.length + 1) * 3 + 2, none⟩ (.int .i64 hd.2.2) = setEnW u0 b1 b2 b3 q.e.length s hd from rfl]
              generalize setEnW u0 b1 b2 b3 q.e.length s hd = W6 at *
              have e6 : ({ q.grow with e := q.grow.e.set (q.e.length) ⟨s, 1, hd⟩, t := q.t + 1 } : PSt) = q.put s hd := (put_grow hj2.out.symm).symm
              rw [e6] at H6
              have HA6 := HAX.keep S6 (fun c h1 h2 => hap.no c h2 h1) hap.z1
              have H6' := Lib.hid H6
              have SX6 := Lib.hid (SX.trans (S6.mono rng_l))
              clear H6 S6 HX htx BX HAX SX e6 fK fU fH fH1 fH2 o1 o2 o3 o4 o5 hnx hix
              go_wp2
              go_ret2
              have hG2 := HH.out.out
              rw [E1.out] at hG2 ⊢
              rw [← hj2.out]
              exact ⟨rfl, _, ⟨hG2, _, _, _, _, _, _, H6'.out⟩, HA6, SX6.out⟩
      · have E1 := Lib.hid (intern_full ha h0)
        have hv2 : ((x.alloc s.size).1.2 != 0) = true := bne_iff_ne.2 h0
        have hG' : Hid (GoodQ (q.intern x s).2) := HH.out
        have H0 := Lib.hid h0
        have hb5 : Below w4.heap.size w4 (w4.alloc (.cells #[.int .i64 (x.alloc s.size).1.1.1, .int .i64 (x.alloc s.size).1.1.2.1, .int .i64 (x.alloc s.size).1.1.2.2] 81)) := (Below.refl _ _).alloc (Nat.le_refl _) _
        have H5 := Lib.hid (H4.below ht4 hb5)
        have HA5 := Lib.hid (HA4.below' ht4 hb5)
        have S5 := Lib.hid (S4.trans (StepC.below ht4 hb5))
        clear hb5 h0 H4 HA4 S4 ht4 ha
        go_wp2
        go_ret2
        have hG2 := hG'.out
        rw [E1.out] at hG2 ⊢
        exact ⟨rfl, col4, ⟨hG2, _, _, _, _, _, _, H5.out.time _⟩, HA5.out, S5.out.mono rng_r⟩
end
end Go.Proofs.Ytenchaifnfgijaa
