/- heavykeyslaw06.StreamFeed returns true, whatever the input. Conditions: none beyond those typed. -/
import Derived.Test.YtfihaonpifoekaaHlaws
import Derived.Test.YtfihaonpifoekaaSlift
import Derived.Test.YtfihaonpifoekaaSbys
namespace Go.Proofs.Ytfihaonpifoekaa
open Go.ChangeShapes Go.WideShapes Go.ChangeAt Go.RowKit
set_option linter.unusedVariables false
set_option linter.unusedSimpArgs false
set_option maxRecDepth 100000

/-- The slices read, and are not too long. -/
def GoodS (w : World) (R : List RawS) : Prop := ∀ (j : Nat) (r : RawS), R[j]? = some r → ∃ l, Rd w r.1 r.2.1 r.2.2 l ∧ r.2.1 ≤ 30000
theorem GoodS.below {w w' : World} {R : List RawS} (h : GoodS w R) (hb : Below w.heap.size w w') : GoodS w' R := fun j r hr => by
  obtain ⟨l, h1, h2⟩ := h j r hr
  exact ⟨l, h1.below hb, h2⟩
theorem GoodS.snoc {w : World} {R : List RawS} {r : RawS} {l : List Int} (h : GoodS w R) (hr : Rd w r.1 r.2.1 r.2.2 l) (hn : r.2.1 ≤ 30000) : GoodS w (R ++ [r]) := fun j s hs => by
  rcases Nat.lt_or_ge j R.length with hj | hj
  · rw [List.getElem?_append_left hj] at hs
    exact h j s hs
  · rw [List.getElem?_append_right hj] at hs
    generalize j - R.length = q at hs
    cases q with
    | zero => simp at hs; subst hs; exact ⟨l, hr, hn⟩
    | succ q => simp at hs
theorem Rd.dropM2 {w : World} {A : Option Addr} {n c : Nat} {l : List Int} (h : Rd w A n c l) {k : Nat} (hk : k ≤ n) : Rd w (if c = k then A else A.map fun x => x.add k) (n - k) (c - k) (l.drop k) := by
  by_cases hn : n - k = 0
  · have hl := h.len
    have hm := h.max
    rw [hn, List.drop_eq_nil_of_le (by omega)]
    exact Rd.nil _ _ _ (by simp only [maxLen]; omega)
  · obtain ⟨b, o, rfl⟩ := h.someB (by omega)
    have hcap := h.cap
    rw [if_neg (by omega), Option.map_some, Addr.add_lit]
    exact h.dropAt hk
theorem le_of_eq2 (w : World) (o : Obj) : w.heap.size ≤ (w.drew.alloc o).heap.size := by simp
/-- What stands after some pieces: two boxes, in blocks G and G + 1, of one stream. -/
def FdsR (wr W : World) : Prop :=
  ∃ (S : St) (A1 : Option Addr) (n1 c1 : Nat) (A2 : Option Addr) (n2 c2 : Nat), Sound6 S ∧ SBox W wr.heap.size A1 n1 c1 S.2.1 S.2.2 ∧ SBox W (wr.heap.size + 1) A2 n2 c2 S.2.1 S.2.2 ∧
    Own W (wr.heap.size + 2) (.slice A1 n1 c1) S.1 ∧ Own W (wr.heap.size + 2) (.slice A2 n2 c2) S.1 ∧ Below wr.heap.size wr W ∧ wr.heap.size + 2 ≤ W.heap.size
theorem six {W w' : World} {g g' : Nat} {A A' : Option Addr} {n n' c c' : Nat} {k k' : Int} {br br' : Bool} (h : SBox W g A n c k br) (h' : SBox W g' A' n' c' k' br') (hb : Below W.heap.size W w') :
    w'.cell? ⟨g, 0, none⟩ = some (.slice A n c) ∧ w'.cell? ⟨g, 1, none⟩ = some (.int .u64 k) ∧ w'.cell? ⟨g, 2, none⟩ = some (.bool br) ∧ w'.cell? ⟨g', 0, none⟩ = some (.slice A' n' c') ∧ w'.cell? ⟨g', 1, none⟩ = some (.int .u64 k') ∧ w'.cell? ⟨g', 2, none⟩ = some (.bool br') ∧ Below W.heap.size W w' :=
  ⟨(h.below hb).c0, (h.below hb).c1, (h.below hb).c2, (h'.below hb).c0, (h'.below hb).c1, (h'.below hb).c2, hb⟩
set_option maxHeartbeats 2000000 in
theorem streamFeed_walk (A : Option Addr) (n c : Nat) (B : Option Addr) (m d : Nat) (u : Int) (w : World) (hA : ArgB w A n c) (hB : RdI w B m d) (hu0 : 0 ≤ u) (hu1 : u ≤ 65535) :
    Calls Try.prog 3 #[.slice A n c, .slice B m d, .int .u16 u] w (Yes w) := by
  obtain ⟨hn1, hn2, hA3⟩ := hA
  have hmx : c ≤ 9223372036854775807 := hn2
  go_enter Try.func3, Try.ntmps3
  go_wp2_with fail
  refine (bytes_any B m d w hB).mono ?_
  rintro e w5 ⟨v5, l5, rfl, O5, hl5, hb5⟩
  obtain ⟨A6, n6, c6, rfl, r6⟩ := O5.form
  have hn6 := r6.len
  obtain ⟨i, hi⟩ : ∃ i : Nat, u % ((n6 : Int) + 1) = i := ⟨(u % ((n6 : Int) + 1)).toNat, by have := Int.emod_nonneg u (show (n6 : Int) + 1 ≠ 0 by omega); omega⟩
  have hi2 : u.tmod ((n6 : Int) + 1) = i := by rw [Int.tmod_eq_emod_of_nonneg hu0]; exact hi
  have hin : i ≤ n6 := by have := Int.emod_lt_of_pos u (show (0 : Int) < (n6 : Int) + 1 by omega); omega
  have z1 : ¬ (n6 : Int) + 1 = 0 := by omega
  have z2 : ((n6 : Int) + 1 == 0) = false := beq_false_of_ne z1
  have hcap6 := r6.cap
  have hmx6 := r6.max
  have i1 : (i : Int) ≤ (n6 : Int) := by omega
  have i2 : (i : Int) ≤ (c6 : Int) := by omega
  have i6 : (n6 : Int) ≤ (c6 : Int) := by omega
  clear O5
  go_wp2
  go_region
  have q1 := r6.dropM2 hin
  have q0 := r6.take hin
  generalize (if c6 = i then A6 else Option.map (fun x => x.add i) A6) = P1 at *
  have hO7 : OwnS (w5.alloc (.cells #[.slice A6 i c6, .slice P1 (n6 - i) (c6 - i)] 25)).drew w5.heap.size (.slice (some ⟨w5.heap.size, 0, none⟩) 2 2) [(A6, i, c6), (P1, n6 - i, c6 - i)] := OwnS.two (w := w5) (A6, i, c6) (P1, n6 - i, c6 - i) rfl
  have hb7 : Below w.heap.size w (w5.alloc (.cells #[.slice A6 i c6, .slice P1 (n6 - i) (c6 - i)] 25)).drew := (hb5.alloc hb5.size _).drew
  have hg7 : GoodS w5 [(A6, i, c6), (P1, n6 - i, c6 - i)] := fun j r hr => by
    match j, hr with
    | 0, hr => simp at hr; subst hr; exact ⟨_, q0, by simp only; omega⟩
    | 1, hr => simp at hr; subst hr; exact ⟨_, q1, by simp only; omega⟩
    | j + 2, hr => simp at hr
  have hg57 : Below w5.heap.size w5 (w5.alloc (.cells #[.slice A6 i c6, .slice P1 (n6 - i) (c6 - i)] 25)).drew := ((Below.refl _ _).alloc (Nat.le_refl _) _).drew
  clear q0 q1 r6
  go_wp2
  generalize (w5.alloc (.cells #[.slice A6 i c6, .slice P1 (n6 - i) (c6 - i)] 25)).drew = W7 at *
  go_loopw [9, 10] (fun v q W => ∃ (e : Nat) (R : List RawS), e ≤ n ∧ e ≤ 8 ∧ q = .int .i64 e ∧ OwnS W w5.heap.size v R ∧ GoodS w5 R ∧ Below w5.heap.size w5 W ∧ R.length = 2 + e) (fun _ q _ => 8 - (intOf q).toNat)
  case atStart => exact ⟨0, _, Nat.zero_le _, Nat.zero_le _, rfl, hO7, hg7, hg57, rfl⟩
  case round =>
    clear hO7 hg7 hg57 hb7
    obtain ⟨e, R, he1, he2, rfl, hO, hG, hb, hRl⟩ := hrel
    by_cases hend : e < n ∧ e < 8
    · obtain ⟨hjn, hj8⟩ := hend
      obtain ⟨b, o, A1, n1, c1, l1, rfl, a0, hR⟩ := hA3 e hjn
      have hb5w : Below w.heap.size w wr := below_then hb5 hb
      have a1 := (hb5w.cell (World.block_lt_of_cell? _ _ a0)).trans a0
      obtain ⟨q, hq⟩ : ∃ q : Nat, min (n1 : Int) 60 = q := ⟨(min (n1 : Int) 60).toNat, by omega⟩
      have hqn : q ≤ n1 := by omega
      have hq2 : q ≤ 60 := by omega
      have hcap := hR.cap
      have hqni : (q : Int) ≤ (n1 : Int) := by omega
      have hqci : (q : Int) ≤ (c1 : Int) := by omega
      have hmx1 := hR.max
      have hRq := (hR.take hqn).below hb5
      have hji : (e : Int) < (n : Int) := by omega
      have hj1i : (e : Int) < 8 := by omega
      have hOd : OwnS (wr.drew.alloc (.cells #[.slice A1 q c1] 25)) w5.heap.size u9 R := OwnS.alloc (w := wr.drew) hO _
      have hL := RawSt.one' (w := wr.drew) (h := wr.heap.size) (r := (A1, q, c1)) rfl
      have hRl2 : R.length + 1 ≤ 1000000 := by omega
      have hz : w5.heap.size ≤ (wr.drew.alloc (.cells #[.slice A1 q c1] 25)).heap.size := Nat.le_trans hb.size (le_of_eq2 wr _)
      have hbd : Below w5.heap.size w5 (wr.drew.alloc (.cells #[.slice A1 q c1] 25)) := hb.drew.alloc hb.size _
      have hlt9 := hO.lt
      have hGn := hG.snoc (r := (A1, q, c1)) hRq (by show q ≤ 30000; omega)
      clear hO
      go_wp2
      go_region_law (refine step_appSl rfl (.tmp 42) (.tmp 54) rfl w5.heap.size u9 R rfl _ 1 1 [(A1, q, c1)] rfl hOd hL hRl2 hz ?_; intro v9 w9 O9 G9; have hb9 := hbd.grown G9 hz (fun k e => (hlt9 k e).1))
      all_goals
        go_wp2
        go_roundw
        case rel => exact ⟨e + 1, _, by omega, by omega, by go_num, O9, hGn, hb9, by rw [List.length_append, List.length_singleton]; omega⟩
        case measure => (simp [intOf] <;> omega)
    · obtain ⟨A9, c9, rfl, r9⟩ := hO.form rfl
      by_cases hjn : e < n
      · have hj10 : e = 8 := by omega
        have hj1i : ¬ (e : Int) < 8 := by omega
        go_wp2
        have hb8 : Below wr.heap.size wr ((wr.alloc (.cells #[.slice none 0 0, .int .u64 0, .bool false] 29)).alloc (.cells #[.slice none 0 0, .int .u64 0, .bool false] 29)) := ((Below.refl _ _).alloc (Nat.le_refl _) _).alloc (by simp) _
        have hS1 := (SBox.new wr none 0 0 0 false).below ((Below.refl _ _).alloc (Nat.le_refl _) (.cells #[.slice none 0 0, .int .u64 0, .bool false] 29))
        have hS2 := SBox.new (wr.alloc (.cells #[.slice none 0 0, .int .u64 0, .bool false] 29)) none 0 0 0 false
        rw [show (wr.alloc (.cells #[.slice none 0 0, .int .u64 0, .bool false] 29)).heap.size = wr.heap.size + 1 from by simp] at hS2
        have hz8 : ((wr.alloc (.cells #[.slice none 0 0, .int .u64 0, .bool false] 29)).alloc (.cells #[.slice none 0 0, .int .u64 0, .bool false] 29)).heap.size = wr.heap.size + 2 := by simp
        have hGr := hG.below hb
        have hbw := below_then hb5 hb
        have hcap9 := r9.2.1
        have hmx9 : c9 ≤ 9223372036854775807 := r9.2.2.1
        clear hO hG hb
        generalize (wr.alloc (.cells #[.slice none 0 0, .int .u64 0, .bool false] 29)).alloc (.cells #[.slice none 0 0, .int .u64 0, .bool false] 29) = W8 at *
        generalize hN : R.length = N at *
        generalize wr = X0 at *
        go_loopw [58] (fun q W => ∃ f : Nat, f ≤ N ∧ q = .int .i64 f ∧ FdsR X0 W) (fun q _ => N - (intOf q).toNat)
        case atStart => exact ⟨0, Nat.zero_le _, rfl, st0, none, 0, 0, none, 0, 0, sound0, hS1, hS2, Own.nil _ _, Own.nil _ _, hb8, by omega⟩
        case round =>
          obtain ⟨f, hf, rfl, S, A1, n1, c1, A2, n2, c2, hso, S1, S2, O1, O2, hbr, hzr⟩ := hrel
          by_cases hfl : f < N
          · obtain ⟨r, hr⟩ : ∃ r, R[f]? = some r := ⟨_, List.getElem?_eq_getElem (by omega)⟩
            obtain ⟨b9, o9, hA9, x9⟩ := r9.2.2.2 f r hr
            subst hA9
            obtain ⟨lp, hRp, hpn⟩ := hGr f r hr
            obtain ⟨A3, n3, c3⟩ := r
            have x9' := (hbr.cell (World.block_lt_of_cell? _ _ x9)).trans x9
            have hRp' := hRp.below hbr
            have hpl := hRp.len
            have hR1 := O1.reads
            have hR2 := O2.reads
            have hbl := open_len hso.1
            simp only at hpn hRp hRp' x9' hpl
            obtain ⟨bq, kq, brq⟩ := S
            have y0 := S1.c0
            have y1 := S1.c1
            have y2 := S1.c2
            have hffi : (f : Int) < (N : Int) := by omega
            go_wp2_with fail
            refine (feed_any A1 n1 c1 (bq, kq, brq) A3 n3 c3 lp wr hso hR1 hRp' (fun _ => by omega)).mono ?_
            intro e' w2 h2
            obtain ⟨pz, hpz⟩ : ∃ pz, pz = feed (bq, kq, brq) lp := ⟨_, rfl⟩
            have hso2 := feed_sound lp hso hRp.bytes
            rw [← hpz] at h2 hso2
            obtain ⟨⟨b2, k2, br2⟩, C2⟩ := pz
            obtain ⟨A4, n4, c4, A5, n5, c5, R5, rfl, O4, C5, T5, hb2⟩ := h2
            have G := put3_grown w2 X0.heap.size (.slice A4 n4 c4) (.int .u64 k2) (.bool br2)
            have S2b := S1.below hb2
            have S1c := S2b.put3 A4 n4 c4 k2 br2
            have S2c := (S2.below hb2).farG G (fun q e => by injection e with e; omega)
            have O4c := O4.grown G (O4.low (by omega))
            have O2c := (O2.below hb2).grown G (O2.low (by omega))
            have C5c := C5.grown G (C5.low (by omega))
            have T5c := T5.grownLow G (Nat.le_refl _) (fun q e => by injection e with e; omega)
            have hbc := below_put3 (hbr.trans (hb2.mono hbr.size)) (Nat.le_refl X0.heap.size) (.slice A4 n4 c4) (.int .u64 k2) (.bool br2)
            have hzc := Nat.le_trans (Nat.le_trans hzr hb2.size) G.size
            have hz2 := G.size
            have hzw := hb2.size
            have f0 := S2b.frozen 0
            have f1 := S2b.frozen 1
            have f2 := S2b.frozen 2
            have u0 := S2b.c0
            have u1 := S2b.c1
            have u2 := S2b.c2
            have v0 := S2c.c0
            have v1 := S2c.c1
            have v2 := S2c.c2
            clear S1 S2 O1 O2 hR1 hR2 y0 y1 y2 C5 T5 hb2 O4 G S2b x9'
            go_wp2_with fail
            generalize ((w2.setCell ⟨X0.heap.size, 0, none⟩ (.slice A4 n4 c4)).setCell ⟨X0.heap.size, 1, none⟩ (.int .u64 k2)).setCell ⟨X0.heap.size, 2, none⟩ (.bool br2) = W3 at *
            have hRp3 := hRp.below hbc
            refine (rfeed_any A2 n2 c2 (bq, kq, brq) A3 n3 c3 lp W3 hso O2c.reads hRp3 (by omega)).mono ?_
            intro e' w4 h4
            rw [← hpz] at h4
            obtain ⟨A6, n6, c6, A7, n7, c7, R7, rfl, O6, C7, T7, hb4⟩ := h4
            have G4 := put3_grown w4 (X0.heap.size + 1) (.slice A6 n6 c6) (.int .u64 k2) (.bool br2)
            have S2d := S2c.below hb4
            have S2e := S2d.put3 A6 n6 c6 k2 br2
            have S1e := (S1c.below hb4).farG G4 (fun q e => by injection e with e; omega)
            have O6e := O6.grown G4 (O6.low (by omega))
            have O4e := (O4c.below hb4).grown G4 (O4c.low (by omega))
            have C7e := C7.grown G4 (C7.low (by omega))
            have C5e := (C5c.below hb4).grown G4 (C5c.low (by omega))
            have T7e := T7.grownLow G4 (Nat.le_refl _) (fun q e => by injection e with e; omega)
            have T5e := (T5c.below (hb4.mono hz2)).grownLow G4 (Nat.le_trans hz2 hb4.size) (fun q e => by injection e with e; omega)
            have hbe := below_put3 (hbc.trans (hb4.mono hbc.size)) (show X0.heap.size ≤ X0.heap.size + 1 by omega) (.slice A6 n6 c6) (.int .u64 k2) (.bool br2)
            have hze := Nat.le_trans (Nat.le_trans hzc hb4.size) G4.size
            have g0 := S2d.frozen 0
            have g1 := S2d.frozen 1
            have g2 := S2d.frozen 2
            have t0 := S2d.c0
            have t1 := S2d.c1
            have t2 := S2d.c2
            clear S1c S2c O4c O2c C5c T5c hbc u0 u1 u2 v0 v1 v2 f0 f1 f2 C7 T7 hb4 O6 G4 S2d hRp3
            go_wp2
            generalize ((w4.setCell ⟨X0.heap.size + 1, 0, none⟩ (.slice A6 n6 c6)).setCell ⟨X0.heap.size + 1, 1, none⟩ (.int .u64 k2)).setCell ⟨X0.heap.size + 1, 2, none⟩ (.bool br2) = W6 at *
            have P4 := O4e.reads
            have P6 := O6e.reads
            obtain rfl : n4 = n6 := by have h1 := P4.len; have h2 := P6.len; omega
            have Q5 : RdC W6 A5 n5 c5 C2 := ⟨R5, C5e.reads, T5e.tells⟩
            have Q7 : RdC W6 A7 n7 c7 C2 := ⟨R7, C7e.reads, T7e.tells⟩
            obtain rfl : n5 = n7 := by have h1 := Q5.len; have h2 := Q7.len; omega
            clear g0 g1 g2 t0 t1 t2 C5e C7e T5e T7e hRp hRp'
            go_region_held3 (fun w' => w'.cell? ⟨X0.heap.size, 0, none⟩ = some (.slice A4 n4 c4) ∧ w'.cell? ⟨X0.heap.size, 1, none⟩ = some (.int .u64 k2) ∧ w'.cell? ⟨X0.heap.size, 2, none⟩ = some (.bool br2) ∧ w'.cell? ⟨X0.heap.size + 1, 0, none⟩ = some (.slice A6 n4 c6) ∧ w'.cell? ⟨X0.heap.size + 1, 1, none⟩ = some (.int .u64 k2) ∧ w'.cell? ⟨X0.heap.size + 1, 2, none⟩ = some (.bool br2) ∧ Below W6.heap.size W6 w')
              (first | exact six S1e S2e (by assumption) | exact six S1e S2e (Below.refl _ _).drew)
              (first
                | (go_at_call 11; refine (sameStream_yes A4 A6 n4 c4 c6 k2 br2 b2 _ P4.drew P6.drew).mono ?_; rintro e x5 ⟨rfl, hx5⟩; have hB5 : Below W6.heap.size W6 x5 := below_from hx5)
                | (go_at_call 12; refine (sameChunks_yes A5 A7 n5 c5 c7 C2 _ (Q5.below hB5) (Q7.below hB5)).mono ?_; rintro e x6 ⟨rfl, j6, rfl⟩; have hB6 : Below W6.heap.size W6 (x5.drewN j6) := below_drewN hB5 j6)
                | (go_at_call 13; refine (idle_any A4 n4 c4 (b2, k2, br2) _ (P4.below (by assumption))).mono ?_; rintro e x7 ⟨rfl, hx7⟩; have hB7 : Below W6.heap.size W6 x7 := below_then (by assumption) hx7)
                | (go_at_call 14; refine (ridle_any A6 n4 c6 (b2, k2, br2) _ (P6.below (by assumption))).mono ?_; rintro e x8 ⟨rfl, hx8⟩; have hB8 : Below W6.heap.size W6 x8 := below_then (by assumption) hx8))
            all_goals
              have hbf := hbe.trans (hB8.mono hbe.size)
              have hzf := Nat.le_trans hze hB8.size
              go_wp2
              go_roundw
              case rel => exact ⟨f + 1, by omega, by go_num, (b2, k2, br2), A4, n4, c4, A6, n4, c6, hso2, S1e.below hB8, S2e.below hB8, (O4e.weaken hzr).below hB8, (O6e.weaken hzc).below hB8, hbf, hzf⟩
              case measure => (simp [intOf] <;> omega)
          · have hff : ¬ (f : Int) < (N : Int) := by omega
            have hbz := below_then hbw hbr
            go_wp2_with fail
            refine (awake_any _).mono ?_
            rintro e w13 ⟨rfl, hb13⟩
            have hbz' := below_then hbz hb13
            go_wp2
            go_ret
            exact ⟨rfl, hbz'⟩
      · have hjn1 : ¬ (e : Int) < (n : Int) := by omega
        go_wp2
        have hb8 : Below wr.heap.size wr ((wr.alloc (.cells #[.slice none 0 0, .int .u64 0, .bool false] 29)).alloc (.cells #[.slice none 0 0, .int .u64 0, .bool false] 29)) := ((Below.refl _ _).alloc (Nat.le_refl _) _).alloc (by simp) _
        have hS1 := (SBox.new wr none 0 0 0 false).below ((Below.refl _ _).alloc (Nat.le_refl _) (.cells #[.slice none 0 0, .int .u64 0, .bool false] 29))
        have hS2 := SBox.new (wr.alloc (.cells #[.slice none 0 0, .int .u64 0, .bool false] 29)) none 0 0 0 false
        rw [show (wr.alloc (.cells #[.slice none 0 0, .int .u64 0, .bool false] 29)).heap.size = wr.heap.size + 1 from by simp] at hS2
        have hz8 : ((wr.alloc (.cells #[.slice none 0 0, .int .u64 0, .bool false] 29)).alloc (.cells #[.slice none 0 0, .int .u64 0, .bool false] 29)).heap.size = wr.heap.size + 2 := by simp
        have hGr := hG.below hb
        have hbw := below_then hb5 hb
        have hcap9 := r9.2.1
        have hmx9 : c9 ≤ 9223372036854775807 := r9.2.2.1
        clear hO hG hb
        generalize (wr.alloc (.cells #[.slice none 0 0, .int .u64 0, .bool false] 29)).alloc (.cells #[.slice none 0 0, .int .u64 0, .bool false] 29) = W8 at *
        generalize hN : R.length = N at *
        generalize wr = X0 at *
        go_loopw [58] (fun q W => ∃ f : Nat, f ≤ N ∧ q = .int .i64 f ∧ FdsR X0 W) (fun q _ => N - (intOf q).toNat)
        case atStart => exact ⟨0, Nat.zero_le _, rfl, st0, none, 0, 0, none, 0, 0, sound0, hS1, hS2, Own.nil _ _, Own.nil _ _, hb8, by omega⟩
        case round =>
          obtain ⟨f, hf, rfl, S, A1, n1, c1, A2, n2, c2, hso, S1, S2, O1, O2, hbr, hzr⟩ := hrel
          by_cases hfl : f < N
          · obtain ⟨r, hr⟩ : ∃ r, R[f]? = some r := ⟨_, List.getElem?_eq_getElem (by omega)⟩
            obtain ⟨b9, o9, hA9, x9⟩ := r9.2.2.2 f r hr
            subst hA9
            obtain ⟨lp, hRp, hpn⟩ := hGr f r hr
            obtain ⟨A3, n3, c3⟩ := r
            have x9' := (hbr.cell (World.block_lt_of_cell? _ _ x9)).trans x9
            have hRp' := hRp.below hbr
            have hpl := hRp.len
            have hR1 := O1.reads
            have hR2 := O2.reads
            have hbl := open_len hso.1
            simp only at hpn hRp hRp' x9' hpl
            obtain ⟨bq, kq, brq⟩ := S
            have y0 := S1.c0
            have y1 := S1.c1
            have y2 := S1.c2
            have hffi : (f : Int) < (N : Int) := by omega
            go_wp2_with fail
            refine (feed_any A1 n1 c1 (bq, kq, brq) A3 n3 c3 lp wr hso hR1 hRp' (fun _ => by omega)).mono ?_
            intro e' w2 h2
            obtain ⟨pz, hpz⟩ : ∃ pz, pz = feed (bq, kq, brq) lp := ⟨_, rfl⟩
            have hso2 := feed_sound lp hso hRp.bytes
            rw [← hpz] at h2 hso2
            obtain ⟨⟨b2, k2, br2⟩, C2⟩ := pz
            obtain ⟨A4, n4, c4, A5, n5, c5, R5, rfl, O4, C5, T5, hb2⟩ := h2
            have G := put3_grown w2 X0.heap.size (.slice A4 n4 c4) (.int .u64 k2) (.bool br2)
            have S2b := S1.below hb2
            have S1c := S2b.put3 A4 n4 c4 k2 br2
            have S2c := (S2.below hb2).farG G (fun q e => by injection e with e; omega)
            have O4c := O4.grown G (O4.low (by omega))
            have O2c := (O2.below hb2).grown G (O2.low (by omega))
            have C5c := C5.grown G (C5.low (by omega))
            have T5c := T5.grownLow G (Nat.le_refl _) (fun q e => by injection e with e; omega)
            have hbc := below_put3 (hbr.trans (hb2.mono hbr.size)) (Nat.le_refl X0.heap.size) (.slice A4 n4 c4) (.int .u64 k2) (.bool br2)
            have hzc := Nat.le_trans (Nat.le_trans hzr hb2.size) G.size
            have hz2 := G.size
            have hzw := hb2.size
            have f0 := S2b.frozen 0
            have f1 := S2b.frozen 1
            have f2 := S2b.frozen 2
            have u0 := S2b.c0
            have u1 := S2b.c1
            have u2 := S2b.c2
            have v0 := S2c.c0
            have v1 := S2c.c1
            have v2 := S2c.c2
            clear S1 S2 O1 O2 hR1 hR2 y0 y1 y2 C5 T5 hb2 O4 G S2b x9'
            go_wp2_with fail
            generalize ((w2.setCell ⟨X0.heap.size, 0, none⟩ (.slice A4 n4 c4)).setCell ⟨X0.heap.size, 1, none⟩ (.int .u64 k2)).setCell ⟨X0.heap.size, 2, none⟩ (.bool br2) = W3 at *
            have hRp3 := hRp.below hbc
            refine (rfeed_any A2 n2 c2 (bq, kq, brq) A3 n3 c3 lp W3 hso O2c.reads hRp3 (by omega)).mono ?_
            intro e' w4 h4
            rw [← hpz] at h4
            obtain ⟨A6, n6, c6, A7, n7, c7, R7, rfl, O6, C7, T7, hb4⟩ := h4
            have G4 := put3_grown w4 (X0.heap.size + 1) (.slice A6 n6 c6) (.int .u64 k2) (.bool br2)
            have S2d := S2c.below hb4
            have S2e := S2d.put3 A6 n6 c6 k2 br2
            have S1e := (S1c.below hb4).farG G4 (fun q e => by injection e with e; omega)
            have O6e := O6.grown G4 (O6.low (by omega))
            have O4e := (O4c.below hb4).grown G4 (O4c.low (by omega))
            have C7e := C7.grown G4 (C7.low (by omega))
            have C5e := (C5c.below hb4).grown G4 (C5c.low (by omega))
            have T7e := T7.grownLow G4 (Nat.le_refl _) (fun q e => by injection e with e; omega)
            have T5e := (T5c.below (hb4.mono hz2)).grownLow G4 (Nat.le_trans hz2 hb4.size) (fun q e => by injection e with e; omega)
            have hbe := below_put3 (hbc.trans (hb4.mono hbc.size)) (show X0.heap.size ≤ X0.heap.size + 1 by omega) (.slice A6 n6 c6) (.int .u64 k2) (.bool br2)
            have hze := Nat.le_trans (Nat.le_trans hzc hb4.size) G4.size
            have g0 := S2d.frozen 0
            have g1 := S2d.frozen 1
            have g2 := S2d.frozen 2
            have t0 := S2d.c0
            have t1 := S2d.c1
            have t2 := S2d.c2
            clear S1c S2c O4c O2c C5c T5c hbc u0 u1 u2 v0 v1 v2 f0 f1 f2 C7 T7 hb4 O6 G4 S2d hRp3
            go_wp2
            generalize ((w4.setCell ⟨X0.heap.size + 1, 0, none⟩ (.slice A6 n6 c6)).setCell ⟨X0.heap.size + 1, 1, none⟩ (.int .u64 k2)).setCell ⟨X0.heap.size + 1, 2, none⟩ (.bool br2) = W6 at *
            have P4 := O4e.reads
            have P6 := O6e.reads
            obtain rfl : n4 = n6 := by have h1 := P4.len; have h2 := P6.len; omega
            have Q5 : RdC W6 A5 n5 c5 C2 := ⟨R5, C5e.reads, T5e.tells⟩
            have Q7 : RdC W6 A7 n7 c7 C2 := ⟨R7, C7e.reads, T7e.tells⟩
            obtain rfl : n5 = n7 := by have h1 := Q5.len; have h2 := Q7.len; omega
            clear g0 g1 g2 t0 t1 t2 C5e C7e T5e T7e hRp hRp'
            go_region_held3 (fun w' => w'.cell? ⟨X0.heap.size, 0, none⟩ = some (.slice A4 n4 c4) ∧ w'.cell? ⟨X0.heap.size, 1, none⟩ = some (.int .u64 k2) ∧ w'.cell? ⟨X0.heap.size, 2, none⟩ = some (.bool br2) ∧ w'.cell? ⟨X0.heap.size + 1, 0, none⟩ = some (.slice A6 n4 c6) ∧ w'.cell? ⟨X0.heap.size + 1, 1, none⟩ = some (.int .u64 k2) ∧ w'.cell? ⟨X0.heap.size + 1, 2, none⟩ = some (.bool br2) ∧ Below W6.heap.size W6 w')
              (first | exact six S1e S2e (by assumption) | exact six S1e S2e (Below.refl _ _).drew)
              (first
                | (go_at_call 11; refine (sameStream_yes A4 A6 n4 c4 c6 k2 br2 b2 _ P4.drew P6.drew).mono ?_; rintro e x5 ⟨rfl, hx5⟩; have hB5 : Below W6.heap.size W6 x5 := below_from hx5)
                | (go_at_call 12; refine (sameChunks_yes A5 A7 n5 c5 c7 C2 _ (Q5.below hB5) (Q7.below hB5)).mono ?_; rintro e x6 ⟨rfl, j6, rfl⟩; have hB6 : Below W6.heap.size W6 (x5.drewN j6) := below_drewN hB5 j6)
                | (go_at_call 13; refine (idle_any A4 n4 c4 (b2, k2, br2) _ (P4.below (by assumption))).mono ?_; rintro e x7 ⟨rfl, hx7⟩; have hB7 : Below W6.heap.size W6 x7 := below_then (by assumption) hx7)
                | (go_at_call 14; refine (ridle_any A6 n4 c6 (b2, k2, br2) _ (P6.below (by assumption))).mono ?_; rintro e x8 ⟨rfl, hx8⟩; have hB8 : Below W6.heap.size W6 x8 := below_then (by assumption) hx8))
            all_goals
              have hbf := hbe.trans (hB8.mono hbe.size)
              have hzf := Nat.le_trans hze hB8.size
              go_wp2
              go_roundw
              case rel => exact ⟨f + 1, by omega, by go_num, (b2, k2, br2), A4, n4, c4, A6, n4, c6, hso2, S1e.below hB8, S2e.below hB8, (O4e.weaken hzr).below hB8, (O6e.weaken hzc).below hB8, hbf, hzf⟩
              case measure => (simp [intOf] <;> omega)
          · have hff : ¬ (f : Int) < (N : Int) := by omega
            have hbz := below_then hbw hbr
            go_wp2_with fail
            refine (awake_any _).mono ?_
            rintro e w13 ⟨rfl, hb13⟩
            have hbz' := below_then hbz hb13
            go_wp2
            go_ret
            exact ⟨rfl, hbz'⟩
end Go.Proofs.Ytfihaonpifoekaa
