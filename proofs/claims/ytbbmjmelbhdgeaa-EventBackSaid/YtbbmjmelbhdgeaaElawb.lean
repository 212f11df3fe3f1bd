/- heavykeyslaw04.EventBack returns true, whatever the input. Conditions: none beyond those typed. -/
import Derived.Test.YtbbmjmelbhdgeaaElaws
import Derived.Test.YtbbmjmelbhdgeaaEdec
namespace Go.Proofs.Ytbbmjmelbhdgeaa
open Go.ChangeShapes Go.WideShapes Go.ChangeAt Go.RowKit
set_option linter.unusedVariables false
set_option linter.unusedSimpArgs false
set_option maxRecDepth 100000

/-- Block g holds N events with short texts, whose tags read. -/
def Evp (W : World) (g N : Nat) : Prop := ∀ k, k < N → ∃ A n c l t x, W.cell? ⟨g, k * 3, none⟩ = some (.slice A n c) ∧ W.cell? ⟨g, k * 3 + 1, none⟩ = some (.int .i64 t) ∧ W.cell? ⟨g, k * 3 + 2, none⟩ = some (.int .u64 x) ∧
  RdT W A n c l ∧ n ≤ 1000 ∧ (0 ≤ x ∧ x ≤ 18446744073709551615) ∧ ∀ t ∈ l, t.1.size ≤ 200 ∧ t.2.size ≤ 200
theorem Evp.below {W W' : World} {g N : Nat} (h : Evp W g N) (hb : Below W.heap.size W W') : Evp W' g N := by
  intro k hk
  obtain ⟨A, n, c, l, t, x, h0, h1, h2, h3, h4, h5⟩ := h k hk
  have hk := fun (a : Addr) (v : Value) (hc : W.cell? a = some v) => (hb.cell (World.block_lt_of_cell? _ a hc)).trans hc
  exact ⟨A, n, c, l, t, x, hk _ _ h0, hk _ _ h1, hk _ _ h2, h3.below hb, h4, h5⟩
theorem Evp.two {W : World} {A0 A1 : Option Addr} {n0 n1 c0 c1 : Nat} {l0 l1 : List Tg} {t0 t1 x0 x1 : Int} (h0 : RdT W A0 n0 c0 l0) (h1 : RdT W A1 n1 c1 l1)
    (m0 : n0 ≤ 1000) (m1 : n1 ≤ 1000) (b0 : 0 ≤ x0 ∧ x0 ≤ 18446744073709551615) (b1 : 0 ≤ x1 ∧ x1 ≤ 18446744073709551615)
    (s0 : ∀ t ∈ l0, t.1.size ≤ 200 ∧ t.2.size ≤ 200) (s1 : ∀ t ∈ l1, t.1.size ≤ 200 ∧ t.2.size ≤ 200) {g : Nat} (hg : g = W.heap.size) :
    Evp (W.alloc (.cells #[.slice A0 n0 c0, .int .i64 t0, .int .u64 x0, .slice A1 n1 c1, .int .i64 t1, .int .u64 x1] 25)) g 2 := by
  subst hg
  intro k hk
  match k, hk with
  | 0, _ => exact ⟨A0, n0, c0, l0, t0, x0, by rw [World.cell?_alloc_at _ _ _ _ rfl]; rfl, by rw [World.cell?_alloc_at _ _ _ _ rfl]; rfl, by rw [World.cell?_alloc_at _ _ _ _ rfl]; rfl, h0.alloc _, m0, b0, s0⟩
  | 1, _ => exact ⟨A1, n1, c1, l1, t1, x1, by rw [World.cell?_alloc_at _ _ _ _ rfl]; rfl, by rw [World.cell?_alloc_at _ _ _ _ rfl]; rfl, by rw [World.cell?_alloc_at _ _ _ _ rfl]; rfl, h1.alloc _, m1, b1, s1⟩
theorem small_enc {l : List Tg} {t : Int} (h1 : l.length ≤ 8) (h2 : ∀ t ∈ l, t.1.size ≤ 200 ∧ t.2.size ≤ 200) (h3 : 0 ≤ t) (h4 : t ≤ 1099511627776) : encE l t = 0 :=
  encE_ok (by omega) (by omega) (List.any_eq_false.2 fun x hx => by have := h2 x hx; simp [longT]; omega)
theorem tagsB_short : ∀ (l : List Tg), (∀ x ∈ l, x.1.size ≤ 200 ∧ x.2.size ≤ 200) → (tagsB l).length ≤ l.length * 420
  | [], _ => by simp [tagsB]
  | t :: r, h => by
    have ih := tagsB_short r fun x hx => h x (by simp [hx])
    have ht := h t (by simp)
    have a1 := enc_ten (n := t.1.size) (by omega)
    have a2 := enc_ten (n := t.2.size) (by omega)
    have e : tagsB (t :: r) = enc t.1.size ++ sB t.1 ++ (enc t.2.size ++ sB t.2) ++ tagsB r := by simp [tagsB, tagB, txt]
    rw [e]
    simp only [List.length_append, List.length_cons, sB_len]
    omega
theorem evB_short {l : List Tg} {t x : Int} (h : encE l t = 0) (hx : 0 ≤ x ∧ x ≤ 18446744073709551615) (h2 : ∀ t ∈ l, t.1.size ≤ 200 ∧ t.2.size ≤ 200) : (evB l t x).length ≤ 3390 := by
  obtain ⟨h0, h1, hl, _⟩ := encE_zero h
  have a1 := head3_len l t x ⟨h0, h1⟩ hx (by omega)
  have a2 := tagsB_short l h2
  show (head3 l t x ++ tagsB l).length ≤ 3390
  rw [List.length_append]; omega
theorem EBox.all {w : World} {g : Nat} {A : Option Addr} {n c : Nat} {t x : Int} (h : EBox w g A n c t x) : w.cell? ⟨g, 0, none⟩ = some (.slice A n c) ∧ w.cell? ⟨g, 1, none⟩ = some (.int .i64 t) ∧ w.cell? ⟨g, 2, none⟩ = some (.int .u64 x) := ⟨h.c0, h.c1, h.c2⟩

set_option maxHeartbeats 1000000 in
theorem eventBack_walk (A : Option Addr) (n c : Nat) (l : List Tg) (et ex : Int) (B : Option Addr) (m d : Nat) (C : Option Addr) (p r : Nat) (w : World) (hA : ArgT w A n c l) (het : -9223372036854775808 ≤ et ∧ et ≤ 9223372036854775807) (hex : 0 ≤ ex ∧ ex ≤ 18446744073709551615)
    (hB : RdI w B m d) (hC : Arg w C p r) :
    Calls Try.prog 7 #[.agg #[.slice A n c, .int .i64 et, .int .u64 ex], .slice B m d, .slice C p r] w (Yes w) := by
  obtain ⟨hp1, hp2, la, hRa⟩ := hC
  have hE0 := EBox.new w A n c et ex
  have hB0 : Below w.heap.size w (w.alloc (.cells #[.slice A n c, .int .i64 et, .int .u64 ex] 25)) := (Below.refl _ w).alloc (Nat.le_refl _) _
  have hA0 := hA.below hB0
  cases hp : plainB n l
  · go_enter Try.func7, Try.ntmps7
    have c0 := hE0.c0
    have c1 := hE0.c1
    have c2 := hE0.c2
    go_wp2_with fail
    refine (plain_any _ _ _ _ _ _ _ hA0).mono ?_
    rintro e w1 ⟨rfl, hb1⟩
    rw [hp]
    go_wp2_with fail
    refine (awake_any _).mono ?_
    rintro e w2 ⟨rfl, hb2⟩
    have hb3 := below_then (below_then hB0 hb1) hb2
    go_wp2
    go_ret
    exact ⟨rfl, hb3⟩
  · obtain ⟨hR0, hn12⟩ := hA0.plain hp
    have hs0 := (plain_true hp).2
    go_enter Try.func7, Try.ntmps7
    have c0 := hE0.c0
    have c1 := hE0.c1
    have c2 := hE0.c2
    go_wp2_with fail
    refine (plain_any _ _ _ _ _ _ _ hA0).mono ?_
    rintro e w1 ⟨rfl, hb1⟩
    rw [hp]
    have hE1 := hE0.below hb1
    have hB1 := below_then hB0 hb1
    have hR1 := hR0.below hb1
    clear c0 c1 c2 hE0 hB0 hb1 hA0 hR0
    have hD := Dk.new (B := w1.drew) (hB.below hB1.drew)
    have hk1 := hE1.all
    have hEd : EBox w1.drew w.heap.size A n c et ex := hE1
    go_wp2_with fail
    go_region_held3 (fun w' => w'.cell? ⟨w.heap.size, 0, none⟩ = some (.slice A n c) ∧ w'.cell? ⟨w.heap.size, 1, none⟩ = some (.int .i64 et) ∧ w'.cell? ⟨w.heap.size, 2, none⟩ = some (.int .u64 ex)) (first | exact hk1 | assumption | exact (EBox.below (hEd.below hD3.low) ((Below.refl _ _).alloc (Nat.le_refl _) _)).all) (first | (go_at_call 11; refine (new_any _ _ _ _).mono ?_; rintro e w2 ⟨rfl, rfl⟩; have hk2 := (hEd.below hD.low).all) | (go_at_call 12; refine (devent_any _ hD).mono ?_; rintro e w3 ⟨A3, n3, c3, l3, x3, rfl, hR3, hn3, ho3, hx3, hD3, hg3⟩; have hk3 := (hEd.below hD3.low).all))
    have hb3 : Below w1.heap.size w1 w3 := below_from hD3.low
    have hB3 := below_then hB1 hb3
    have hR1' := hR1.below hb3
    have hV := Evp.two (t0 := et) (t1 := 77) hR1' hR3 (by omega) (by omega) hex hx3 hs0 (fun t ht => by have := ho3.2 t ht; omega) rfl
    have hB4 := hB3.alloc hB3.size (.cells #[.slice A n c, .int .i64 et, .int .u64 ex, .slice A3 n3 c3, .int .i64 77, .int .u64 x3] 25)
    clear hk1 hk2 hk3 hE1 hEd hD hD3 hg3 hR3 hR1 hR1' hB1 hb3 hB3 ho3 hs0
    go_wp2
    generalize hG : w3.heap.size = G at *
    generalize w3.alloc (.cells #[.slice A n c, .int .i64 et, .int .u64 ex, .slice A3 n3 c3, .int .i64 77, .int .u64 x3] 25) = W0 at *
    clear hG
    go_loopw [26] (fun i W => ∃ k : Nat, k ≤ 2 ∧ Below W0.heap.size W0 W ∧ i = .int .i64 k) (fun i _ => 2 - (intOf i).toNat)
    case atStart => exact ⟨0, by omega, by first | exact Below.refl _ _ | exact (Below.refl _ _).drew, rfl⟩
    case round =>
      obtain ⟨k, hk, hb, rfl⟩ := hrel
      by_cases hlt : k < 2
      · obtain ⟨Ak, nk, ck, lk, tk, xk, a0, a1, a2, hRk, hnk, hxk, hsk⟩ := (hV.below hb) k hlt
        have hbG := World.block_lt_of_cell? _ _ a0
        have hX := EBox.new wr Ak nk ck tk xk
        have y0 := hX.c0
        have y1 := hX.c1
        have y2 := hX.c2
        have hb5 := hb.alloc hb.size (.cells #[.slice Ak nk ck, .int .i64 tk, .int .u64 xk] 25)
        by_cases he : encE lk tk = 0
        · have HE := Lib.hid he
          have hsh := evB_short he hxk hsk
          have HDB := Lib.hid (dec_back (l := lk) (t := tk) (w := xk) la he hxk hRa.bytes)
          have HS := Lib.hid hsk
          clear he hsk
          go_wp2_with fail
          refine (encode_any _ _ _ lk _ _ _ (hRk.alloc _) hnk hxk).mono ?_
          rintro e w6 ⟨A6, n6, c6, rfl, hr6, hb6⟩
          rw [encB_yes HE.out] at hr6
          rw [HE.out]
          have hX6 := hX.below hb6
          have hR6 := (hRk.alloc (.cells #[.slice Ak nk ck, .int .i64 tk, .int .u64 xk] 25)).below hb6
          have hb7 := below_then hb5 hb6
          have hRa6 := hRa.below (below_then hB4 hb7)
          clear y0 y1 y2 hX hb5 hb6 hRk a0 a1 a2
          have HL6 := Lib.hid hr6.len
          have hr6' := hr6.alloc (.cells #[] 5)
          have g1 : ([] : List Int).length + n6 ≤ 140737488355328 := by have := HL6.out; simp only [List.length_nil]; omega
          have g2 : w6.heap.size ≤ (w6.alloc (.cells #[] 5)).heap.size := by simp
          have g3 : (evB lk tk xk).length + p ≤ 140737488355328 := by omega
          have hbe : Below w6.heap.size w6 (w6.alloc (.cells #[] 5)) := (Below.refl _ _).alloc (Nat.le_refl _) _
          go_wp2_with (first | (at_builtin; refine wpList_app rfl (.tmp 38) (.tmp 39) rfl w6.heap.size (.slice (some ⟨w6.heap.size, 0, none⟩) 0 0) [] rfl A6 n6 c6 (evB lk tk xk) rfl (Own.empty w6) hr6' g1 g2 ?_; intro v7 w7 hO7 hg7 _; rw [List.nil_append] at hO7; have b7 := Below.app hbe (Own.empty w6) hg7 g2 (Nat.le_refl _); have hRa7 := hRa6.below b7; have g4 := b7.size) | (at_builtin; refine wpList_app rfl (.tmp 40) (.tmp 41) rfl w6.heap.size v7 (evB lk tk xk) rfl C p r la rfl hO7 hRa7 g3 g4 ?_; intro v8 w8 hO8 hg8 _; have b8 := Below.app b7 hO7 hg8 g4 (Nat.le_refl _); obtain ⟨A8, n8, c8, rfl, hr8⟩ := hO8.form))
          refine (decode_any _ _ _ _ _ hr8).mono ?_
          rintro e w9 ⟨A9, n9, c9, rfl, hT9, hb9⟩
          obtain ⟨d1, d2, d3, d4, d5⟩ := HDB.out
          rw [d1, d3, d4, d5]
          rw [d2] at hT9
          have hb10 := below_then b8 hb9
          have hX9 := hX6.below hb10
          have hR9 := hR6.below hb10
          have hb11 := below_then hb7 hb10
          clear hr8 hO8 hg8 hO7 hg7 b7 b8 hRa7 g4 hX6 hR6 hb7 hb9 hb10 hRa6 hr6 hr6' d1 d2 d3 d4 d5 hbe
          have hbX : Below w9.heap.size w9 (w9.alloc (.cells #[.slice A9 n9 c9, .int .i64 tk, .int .u64 xk] 25)) := (Below.refl _ _).alloc (Nat.le_refl _) _
          have hY := EBox.new w9 A9 n9 c9 tk xk
          have hX10 := hX9.below hbX
          have hR10 := hR9.below hbX
          have hT10 := hT9.below hbX
          have hb12 := below_then hb11 hbX
          have hn9 : n9 ≤ 1000 := by have h1 := hT9.len; have h2 := hR9.len; omega
          have x0 := hX10.c0
          have x1 := hX10.c1
          have x2 := hX10.c2
          have z0 := hY.c0
          have z1 := hY.c1
          have z2 := hY.c2
          have hl6 := HL6.out
          rw [hl6]
          clear hX9 hR9 hT9 hb11 hbX hX10 hY hl6
          go_wp2_with fail
          refine (sameEvent_yes _ _ _ _ _ _ lk _ _ _ hR10 hT10 hnk hn9).mono ?_
          rintro e w11 ⟨rfl, hb13⟩
          have hb14 := below_then hb12 hb13
          go_wp2
          go_roundw
          case rel => exact ⟨k + 1, by omega, hb14, by go_num⟩
          case measure => (simp [intOf] <;> omega)
        · have hv1 : (encE lk tk == 0) = false := beq_false_of_ne he
          have hv2 : (encE lk tk != 0) = true := bne_iff_ne.2 he
          clear he hsk
          go_wp2_with fail
          refine (encode_any _ _ _ lk _ _ _ (hRk.alloc _) hnk hxk).mono ?_
          rintro e w6 ⟨A6, n6, c6, rfl, hr6, hb6⟩
          have hb7 := below_then hb5 hb6
          clear y0 y1 y2 hX hb5 hb6 hRk a0 a1 a2
          go_wp2
          go_roundw
          case rel => exact ⟨k + 1, by omega, hb7, by go_num⟩
          case measure => (simp [intOf] <;> omega)
      · have hB5 := below_then hB4 hb
        go_wp2_with fail
        refine (new_any _ _ _ _).mono ?_
        rintro e w5 ⟨rfl, rfl⟩
        go_wp2_with fail
        refine (devent_any _ (Dk.new (hB.below hB5))).mono ?_
        rintro e w6 ⟨A6, n6, c6, l6, x6, rfl, hR6, hn6, ho6, hx6, hD6, -⟩
        have hB6 := below_then hB5 hD6.low
        have HZ := Lib.hid (small_enc (l := l6) (t := 77) (by have := hR6.len; omega) (fun t ht => by have := ho6.2 t ht; omega) (by omega) (by omega))
        clear hB5 hD6 ho6 hb
        go_wp2_with fail
        refine (encode_any _ _ _ l6 _ _ _ hR6 (by omega) hx6).mono ?_
        rintro e w7 ⟨A7, n7, c7, rfl, -, hb7⟩
        rw [HZ.out]
        have hB7 := below_then hB6 hb7
        go_wp2_with fail
        refine (awake_any _).mono ?_
        rintro e w8 ⟨rfl, hb8⟩
        have hB8 := below_then hB7 hb8
        go_wp2
        go_ret
        exact ⟨rfl, hB8⟩
end Go.Proofs.Ytbbmjmelbhdgeaa
