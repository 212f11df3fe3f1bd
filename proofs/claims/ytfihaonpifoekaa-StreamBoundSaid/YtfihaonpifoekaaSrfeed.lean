/- heavykeysref01.Feed. Conditions: none beyond those typed. -/
import Derived.Test.YtfihaonpifoekaaSfeed2
import Derived.Test.YtfihaonpifoekaaVrefread
namespace Go.Proofs.Ytfihaonpifoekaa
open Go.ChangeShapes Go.WideShapes Go.ChangeAt Go.RowKit
set_option linter.unusedVariables false
set_option linter.unusedSimpArgs false
set_option maxRecDepth 100000

/-- What stands after i bytes. -/
def RfR (w : World) (s : St) (l : List Int) (i : Nat) (vC : Value) (W : World) : Prop :=
  ∃ (b : List Int) (k : Int) (br : Bool) (C : List Ck) (A1 : Option Addr) (n1 c1 : Nat) (R : List RawC) (bb : Nat),
    SBox W w.heap.size A1 n1 c1 k br ∧ SBox W (w.heap.size + 1) none 0 0 0 false ∧ Own W bb (.slice A1 n1 c1) b ∧ feed s (l.take i) = ((b, k, br), C) ∧
    OwnC W (w.heap.size + 2) vC R ∧ Stays W (w.heap.size + 2) bb vC.ownBlock R C ∧ (∀ q, vC.ownBlock = some q → (Value.slice A1 n1 c1).ownBlock ≠ some q) ∧ w.heap.size + 2 ≤ bb ∧ bb ≤ W.heap.size ∧
    Below w.heap.size w W ∧ C.length ≤ i
theorem stepS_broken {s : St} {z : Int} (h : s.2.2 = true) : stepS s z = (s, []) := if_pos h
theorem stepS_skip {b : List Int} {k z : Int} (h : k ≠ 0) : stepS (b, k, false) z = ((b, k - 1, false), []) := by
  unfold stepS; rw [if_neg (by simp), if_pos h]
theorem stepS_byte {b : List Int} {z : Int} : stepS (b, 0, false) z = stepB (b ++ [z]) := by
  unfold stepS; rw [if_neg (by simp), if_neg (by simp)]
theorem feed_at {s s' s2 : St} {l : List Int} {i : Nat} {z : Int} {C D : List Ck} (h : feed s (l.take i) = (s', C)) (hz : l[i]? = some z) (hs : stepS s' z = (s2, D)) : feed s (l.take (i + 1)) = (s2, C ++ D) := by
  rw [feed_snoc hz, h]
  show ((stepS s' z).1, C ++ (stepS s' z).2) = _
  rw [hs]
theorem cell_grown (w : World) (p : Addr) (u : Value) : w.grownBy (w.setCell p u) (some p.block) :=
  ⟨rfl, rfl, rfl, by simp [World.setCell], fun q _ hq => Below.heap_setCell _ _ _ _ (fun e => hq (by rw [e]))⟩
theorem bd0 (w : World) (o : Obj) : Below w.heap.size w (w.alloc o) := (Below.refl _ _).alloc (Nat.le_refl _) o
/-- Behind a chunk. -/
theorem RfR.chunk {w W8 w9 wX : World} {s : St} {l : List Int} {i : Nat} {u6 v9 : Value} {R : List RawC} {C : List Ck} {bb : Nat} {A8 : Option Addr} {n8 c8 : Nat} {x : List Int} {v k' : Int} {br' : Bool}
    (hF : feed s (l.take (i + 1)) = (([], k', br'), C ++ [(x, v)])) (Z8 : SBox W8 (w.heap.size + 1) none 0 0 0 false) (hu : ∀ q, u6.ownBlock = some q → w.heap.size + 2 ≤ q ∧ q < W8.heap.size)
    (T8 : Stays W8 (w.heap.size + 2) bb u6.ownBlock R C) (b1 : w.heap.size + 2 ≤ bb) (b8 : bb ≤ W8.heap.size) (B8 : Below w.heap.size w W8) (hr : Rd W8 A8 n8 c8 x)
    (hblk : ∀ q o sp, A8 = some ⟨q, o, sp⟩ → x ≠ [] → w.heap.size + 2 ≤ q ∧ q < W8.heap.size ∧ some q ≠ u6.ownBlock)
    (C9 : OwnC w9 (w.heap.size + 2) v9 (R ++ [(A8, n8, c8, v)])) (G9 : W8.grownBy w9 u6.ownBlock) (hat9 : v9.ownBlock = u6.ownBlock ∨ v9.ownBlock = some W8.heap.size) (hc : C.length ≤ i)
    (SX : SBox wX w.heap.size none 0 0 k' br') (GX : w9.grownBy wX (some w.heap.size)) : RfR w s l (i + 1) v9 wX := by
  have T9 := (((T8.wider (B' := W8.heap.size) b8 (.inl rfl)).snoc (v := v) hr hblk).grown G9 (Nat.le_refl _) (.inl rfl)).wider (B' := w9.heap.size) (x' := v9.ownBlock) G9.size (by
    rcases hat9 with h | h
    · exact .inl h
    · exact .inr (.inr ⟨_, h, Nat.le_refl _⟩))
  have Z9 := Z8.farG G9 (fun q e => by have := hu q e; omega)
  have B9 := B8.grown G9 B8.size (fun q e => by have := hu q e; omega)
  have hs9 := G9.size
  exact ⟨[], k', br', C ++ [(x, v)], none, 0, 0, _, w9.heap.size, SX, Z9.farG GX (fun q e => by injection e with e; omega), Own.nil _ _, hF, C9.grown GX (C9.low (by omega)), T9.grownLow GX (Nat.le_refl _) (fun q e => by injection e with e; omega), (by intro q _ h2; cases h2), by omega, GX.size, B9.grown GX B9.size (fun q e => by injection e with e; omega), by rw [List.length_append, List.length_singleton]; omega⟩
set_option maxHeartbeats 2000000 in
theorem rfeed_any (A : Option Addr) (n c : Nat) (s : St) (P : Option Addr) (m d : Nat) (l : List Int) (w : World) (hS : Sound6 s) (hA : Rd w A n c s.1) (hP : Rd w P m d l) (hm : m ≤ 900000000) :
    Calls Try.prog 10 #[.agg #[.slice A n c, .int .u64 s.2.1, .bool s.2.2], .slice P m d] w (FeedOut (feed s l) w) := by
  obtain ⟨b0, k0, br0⟩ := s
  have hB2 : Below w.heap.size w ((w.alloc (.cells #[.slice A n c, .int .u64 k0, .bool br0] 29)).alloc (.cells #[.slice none 0 0, .int .u64 0, .bool false] 29)) :=
    ((Below.refl _ _).alloc (Nat.le_refl _) _).alloc (by simp) _
  have hS1 := (SBox.new w A n c k0 br0).below ((Below.refl _ _).alloc (Nat.le_refl _) (.cells #[.slice none 0 0, .int .u64 0, .bool false] 29))
  have hZ1 := SBox.new (w.alloc (.cells #[.slice A n c, .int .u64 k0, .bool br0] 29)) none 0 0 0 false
  rw [show (w.alloc (.cells #[.slice A n c, .int .u64 k0, .bool br0] 29)).heap.size = w.heap.size + 1 from by simp] at hZ1
  have hsz : ((w.alloc (.cells #[.slice A n c, .int .u64 k0, .bool br0] 29)).alloc (.cells #[.slice none 0 0, .int .u64 0, .bool false] 29)).heap.size = w.heap.size + 2 := by simp
  have BL := (Below.refl ((w.alloc (.cells #[.slice A n c, .int .u64 k0, .bool br0] 29)).alloc (.cells #[.slice none 0 0, .int .u64 0, .bool false] 29)).heap.size ((w.alloc (.cells #[.slice A n c, .int .u64 k0, .bool br0] 29)).alloc (.cells #[.slice none 0 0, .int .u64 0, .bool false] 29))).alloc (Nat.le_refl _) (.cells #[] 5)
  have E2 := Own.empty ((w.alloc (.cells #[.slice A n c, .int .u64 k0, .bool br0] 29)).alloc (.cells #[.slice none 0 0, .int .u64 0, .bool false] 29))
  have hA2 := (hA.below hB2).below BL
  have S2 := hS1.below BL
  have Z2 := hZ1.below BL
  have B2 := hB2.alloc hB2.size (.cells #[] 5)
  have z2 := BL.size
  have hnn := open_len hS.1
  have hnl := hA.len
  have hml := hP.len
  have hlen : ([] : List Int).length + n ≤ 140737488355328 := by rw [List.length_nil]; simp only at hnn hnl; omega
  have x0 := S2.c0
  rw [hsz] at E2 z2
  clear hS1 hZ1 hB2 BL
  go_enter Try.func10, Try.ntmps10
  go_wp2_with (at_builtin; refine wpList_app rfl (.tmp 12) (.tmp 14) rfl (w.heap.size + 2) (.slice (some ⟨w.heap.size + 2, 0, none⟩) 0 0) [] rfl A n c b0 rfl E2 hA2 hlen z2 ?_; intro v3 w3 O3 G3 hat3; rw [List.nil_append] at O3; obtain ⟨A3, n3, c3, e3, hr3⟩ := O3.form; subst e3; have S3 := S2.farG G3 (fun q e => by have := E2.lt q e; omega); have Z3 := Z2.farG G3 (fun q e => by have := E2.lt q e; omega); have f0 := S3.frozen 0; have x3 := S3.c0)
  have S4 := S3.put0 A3 n3 c3
  have Z4 := Z3.farCell ⟨w.heap.size, 0, none⟩ (.slice A3 n3 c3) (by simp)
  have O4 := O3.farCell ⟨w.heap.size, 0, none⟩ (.slice A3 n3 c3) (O3.low (g := w.heap.size) (by omega))
  have B4 := (B2.grown G3 B2.size (fun q e => by have := E2.lt q e; omega)).setCell (p := ⟨w.heap.size, 0, none⟩) (Nat.le_refl _) (.slice A3 n3 c3)
  have z4 : w.heap.size + 2 ≤ (w3.setCell ⟨w.heap.size, 0, none⟩ (.slice A3 n3 c3)).heap.size := by have := G3.size; simp [World.setCell] at this ⊢; omega
  have hK0 : feed (b0, k0, br0) (l.take 0) = ((b0, k0, br0), []) := rfl
  clear E2 hA2 S2 Z2 B2 z2 x0 G3 hat3 S3 Z3 O3 f0 x3 hr3 hlen
  generalize w3.setCell ⟨w.heap.size, 0, none⟩ (.slice A3 n3 c3) = W4 at *
  go_loopw [6, 19] (fun vC i W => ∃ j : Nat, j ≤ m ∧ i = .int .i64 j ∧ RfR w (b0, k0, br0) l j vC W) (fun _ i _ => m - (intOf i).toNat)
  case atStart => exact ⟨0, Nat.zero_le _, rfl, b0, k0, br0, [], A3, n3, c3, [], w.heap.size + 2, S4, Z4, O4, hK0, OwnC.nil _ _, Stays.nil _ _ _ _, (by intro q hq; cases hq), Nat.le_refl _, z4, B4, Nat.le_refl _⟩
  case round =>
    clear S4 Z4 O4 B4 hK0 z4
    obtain ⟨i, hi, rfl, b, k, br, C, A1, n1, c1, R, bb, hS1, hZ1, hO, hF, hC, hSt, hap, hb1, hb2, hB, hcnt⟩ := hrel
    have x0 := hS1.c0
    have x1 := hS1.c1
    have x2 := hS1.c2
    have f0 := hS1.frozen 0
    have f1 := hS1.frozen 1
    have f2 := hS1.frozen 2
    by_cases hlt : i < m
    · obtain ⟨pb, po, z, rfl, hz, hz0, hz1, hpb, hpc⟩ := hP.at_ hlt
      have hpc' := (hB.cell hpb).trans hpc
      have hcap := hP.cap
      have hmx := hP.max
      have hso := feed_sound (l.take i) hS (Byt.take hP.bytes i)
      rw [hF] at hso
      have hkb := hso.2.1
      have hnb := open_len hso.1
      have hnl1 := hO.len
      have hR1 := hC.1
      cases br with
      | true =>
        have HF := Lib.hid (feed_at hF hz (stepS_broken rfl))
        clear hF hz
        go_wp2
        refine ⟨⟨i + 1, by omega, by go_num, b, k, true, C, A1, n1, c1, R, bb, hS1, hZ1, hO, by rw [HF.out, List.append_nil], hC, hSt, hap, hb1, hb2, hB, by omega⟩, ?_⟩
        simp [intOf]; omega
      | false =>
        by_cases hk0 : k = 0
        · subst hk0
          have hF2 := feed_at hF hz (s2 := (stepB (b ++ [z])).1) (D := (stepB (b ++ [z])).2) stepS_byte
          have HF := Lib.hid hF2
          have BL := (Below.refl wr.heap.size wr).alloc (Nat.le_refl _) (.cells #[.int .u8 z] 5)
          have L2 := Rd.one wr 5 z ⟨hz0, hz1⟩
          have O2 := hO.below BL
          have S2 := hS1.below BL
          have Z2 := hZ1.below BL
          have C2 := hC.below BL
          have T2 := hSt.below (BL.mono hb2)
          have B2 := below_then hB BL
          have b2 := Nat.le_trans hb2 BL.size
          have hlen : b.length + 1 ≤ 140737488355328 := by simp only at hnb; omega
          clear hF hz hF2 BL hS1 hZ1 hO hC hSt hB hb2 hso hkb f1 f2 hpc
          go_wp2_with (at_builtin; refine wpList_app rfl (.tmp 33) (.tmp 35) rfl bb (.slice A1 n1 c1) b rfl _ 1 1 [z] rfl O2 L2 hlen b2 ?_; intro v3 w3 O3 G3 hat3; obtain ⟨A3, n3, c3, e3, hr3⟩ := O3.form; subst e3; have S3 := S2.farG G3 (fun q e => by have := O2.lt q e; omega); have f0 := S3.frozen 0; have x3 := S3.c0)
          have hown := O2.lt
          have hCn : u6.ownBlock = none ∨ u6.ownBlock ≠ (Value.slice A1 n1 c1).ownBlock := by
            cases hu : u6.ownBlock with
            | none => exact .inl rfl
            | some q => exact .inr fun e => hap q hu e.symm
          have G := cell_grown w3 ⟨w.heap.size, 0, none⟩ (.slice A3 n3 c3)
          have S5 := S3.put0 A3 n3 c3
          have Z5 := (Z2.farG G3 (fun q e => by have := hown q e; omega)).farCell ⟨w.heap.size, 0, none⟩ (.slice A3 n3 c3) (by simp)
          have O5 := O3.farCell ⟨w.heap.size, 0, none⟩ (.slice A3 n3 c3) (O3.low (g := w.heap.size) (by omega))
          have C3 := C2.grown G3 hCn
          have C5 := C3.grown G (C3.low (g := w.heap.size) (by omega))
          have T5 := (T2.grown G3 b2 (.inr fun q e => (hown q e).1)).grownLow G (Nat.le_trans b2 G3.size) (fun q e => by injection e with e; simp only at e; omega)
          have B5 := (B2.grown G3 B2.size (fun q e => by have := hown q e; omega)).setCell (p := ⟨w.heap.size, 0, none⟩) (Nat.le_refl _) (.slice A3 n3 c3)
          have b5 := Nat.le_trans (Nat.le_trans b2 G3.size) G.size
          have hap5 : ∀ q, u6.ownBlock = some q → (Value.slice A3 n3 c3).ownBlock ≠ some q := fun q h1 h2 => by
            rcases hat3 with h | h
            · exact hap q h1 (h.symm.trans h2)
            · have h3 := (C2.lt q h1).2
              rw [h] at h2; injection h2 with h2; omega
          have hu5 := C5.lt
          have hl3 := hr3.len
          rw [List.length_append, List.length_singleton] at hl3
          clear S2 Z2 O2 C2 T2 B2 b2 G3 hat3 hap hown hCn S3 C3 x3 f0 G L2 O3 hr3 hpc'
          generalize hW5 : w3.setCell ⟨w.heap.size, 0, none⟩ (.slice A3 n3 c3) = W5 at *
          have hr5 := O5.reads
          generalize hbz : b ++ [z] = bz at *
          have hlb := hr5.len
          have ht := rd_top hr5.bytes
          refine (rread_any _ _ _ bz _ hr5).mono ?_
          rintro e w6 ⟨rfl, rfl⟩
          clear hW5
          have hap' := hap5
          have x5 := S5.c0
          by_cases h3 : rdE bz = 3
          · have HS := Lib.hid (stepB_form h3)
            rw [h3]
            clear h3
            have BL := (Below.refl W5.heap.size W5).alloc (Nat.le_refl _) (.cells #[.slice none 0 0, .int .i64 1] 41)
            have L8 := RawCt.one' (w := W5) (h := W5.heap.size) none 0 0 1 rfl
            have S8 := S5.below BL
            have Z8 := Z5.below BL
            have C8 := C5.below BL
            have T8 := T5.below (BL.mono b5)
            have B8 := below_then B5 BL
            have b8 := Nat.le_trans b5 BL.size
            have hu8 := C8.lt
            have hRl : R.length + 1 ≤ 1000000000 := by have := T5.tells.1; omega
            have hz8 := Nat.le_trans hb1 b8
            clear BL
            go_wp2_with (at_builtin; refine wpList_appC rfl (.tmp 48) (.tmp 50) rfl (w.heap.size + 2) u6 R rfl _ 1 1 [(none, 0, 0, 1)] rfl C8 L8 hRl hz8 ?_; intro v9 w9 C9 G9 hat9; have S9 := S8.farG G9 (fun q e => by have := hu8 q e; omega); have x0 := S9.c0; have x1 := S9.c1; have x2 := S9.c2; have f0 := S9.frozen 0; have f1 := S9.frozen 1; have f2 := S9.frozen 2)
            have HF' := HF.out
            rw [HS.out] at HF'
            have GX := put3_grown w9 w.heap.size (.slice none 0 0) (.int .u64 0) (.bool true)
            refine ⟨⟨i + 1, by omega, by go_num, RfR.chunk HF' Z8 hu8 T8 hb1 b8 B8 (Rd.nil _ _ _ (by simp [maxLen])) (fun q o sp e => by cases e) C9 G9 hat9 hcnt (S9.put3 none 0 0 0 true) GX⟩, ?_⟩
            simp [intOf]; omega
          · by_cases h0 : rdE bz = 0
            · have hK := rd_used hr5.bytes h0
              by_cases h4 : 4096 < rdN bz
              · have HS := Lib.hid (stepB_big h0 h4)
                rw [h0]
                clear h0 h3
                have BL := (Below.refl W5.heap.size W5).alloc (Nat.le_refl _) (.cells #[.slice none 0 0, .int .i64 2] 41)
                have L8 := RawCt.one' (w := W5) (h := W5.heap.size) none 0 0 2 rfl
                have S8 := S5.below BL
                have Z8 := Z5.below BL
                have C8 := C5.below BL
                have T8 := T5.below (BL.mono b5)
                have B8 := below_then B5 BL
                have b8 := Nat.le_trans b5 BL.size
                have hu8 := C8.lt
                have hRl : R.length + 1 ≤ 1000000000 := by have := T5.tells.1; omega
                have hz8 := Nat.le_trans hb1 b8
                clear BL
                go_wp2_with (at_builtin; refine wpList_appC rfl (.tmp 60) (.tmp 62) rfl (w.heap.size + 2) u6 R rfl _ 1 1 [(none, 0, 0, 2)] rfl C8 L8 hRl hz8 ?_; intro v9 w9 C9 G9 hat9; have S9 := S8.farG G9 (fun q e => by have := hu8 q e; omega); have x0 := S9.c0; have x1 := S9.c1; have x2 := S9.c2; have f0 := S9.frozen 0; have f1 := S9.frozen 1; have f2 := S9.frozen 2)
                have HF' := HF.out
                rw [HS.out] at HF'
                have GX := put3_grown w9 w.heap.size (.slice none 0 0) (.int .u64 (rdN bz)) (.bool false)
                refine ⟨⟨i + 1, by omega, by go_num, RfR.chunk HF' Z8 hu8 T8 hb1 b8 B8 (Rd.nil _ _ _ (by simp [maxLen])) (fun q o sp e => by cases e) C9 G9 hat9 hcnt (S9.put3 none 0 0 (rdN bz) false) GX⟩, ?_⟩
                simp [intOf]; omega
              · by_cases h5 : (bz.length : Int) - rdK bz < rdN bz
                · have HS := Lib.hid (stepB_open h0 h4 h5)
                  rw [hlb] at h5 hK
                  rw [h0]
                  clear h0 h3
                  go_wp2
                  refine ⟨⟨i + 1, by omega, by go_num, bz, 0, false, C, A3, n3, c3, R, bb, S5, Z5, O5, by rw [HF.out, HS.out, List.append_nil], C5, T5, hap', hb1, b5, B5, by omega⟩, ?_⟩
                  simp [intOf]; omega
                · have hF3 := stepB_full h0 h4 h5
                  rw [hlb] at h5 hK
                  rw [h0]
                  obtain ⟨q, hq⟩ := Int.eq_ofNat_of_zero_le (show 0 ≤ rdK bz by omega)
                  obtain ⟨p, hp⟩ := Int.eq_ofNat_of_zero_le ht.1
                  rw [hq, hp, Int.toNat_natCast, Int.toNat_natCast] at hF3
                  have HS := Lib.hid hF3
                  have hq1 : 1 ≤ q := by omega
                  have hqn : q ≤ n3 := by omega
                  have hpq : q + p ≤ n3 := by omega
                  have hcap3 := hr5.cap
                  have hmx3 := hr5.max
                  obtain ⟨g, o, rfl⟩ := hr5.someB (by omega)
                  have i1 : (q : Int) ≤ (q : Int) + (p : Int) := by omega
                  have i2 : (q : Int) + (p : Int) ≤ (c3 : Int) := by omega
                  have i3 : ¬ ((n3 : Int) - (q : Int) < (p : Int)) := by omega
                  have i4 : (p : Int) ≤ (n3 : Int) - (q : Int) := by omega
                  rw [hq, hp]
                  rw [hp] at h4
                  have hp4 : p ≤ 4096 := by omega
                  have hl9 : ([] : List Int).length + p ≤ 140737488355328 := by rw [List.length_nil]; omega
                  have BL := (Below.refl W5.heap.size W5).alloc (Nat.le_refl _) (.cells #[] 5)
                  have E8 := Own.empty W5
                  have z8 := BL.size
                  have S8 := S5.below BL
                  have Z8 := Z5.below BL
                  have C8 := C5.below BL
                  have T8 := T5.below (BL.mono b5)
                  have B8 := below_then B5 BL
                  have b8 := Nat.le_trans b5 BL.size
                  have hu8 := C8.lt
                  have hxr : ∀ A', (c3 = q → A' = some ⟨g, o, none⟩) → (c3 ≠ q → A' = some ⟨g, o + q, none⟩) → Rd (W5.alloc (.cells #[] 5)) A' p (c3 - q) ((bz.drop q).take p) := fun A' h1 h2 => by
                    by_cases hc : c3 = q
                    · have hp0 : p = 0 := by omega
                      subst hp0
                      rw [List.take_zero]
                      exact Rd.nil _ _ _ (by simp only [maxLen]; omega)
                    · rw [h2 hc]
                      exact ((hr5.dropAt hqn).take (show p ≤ n3 - q by omega)).below BL
                  have hRl : R.length + 1 ≤ 1000000000 := by have := T5.tells.1; omega
                  by_cases hc : c3 = q
                  · have hx := hxr (some ⟨g, o, none⟩) (fun _ => rfl) (fun h => absurd hc h)
                    have HC := Lib.hid hc
                    have X0 : c3 - q = 0 := by omega
                    rw [X0] at hx
                    rw [show p = q + p - q by omega] at hl9
                    have hx' : Rd (W5.alloc (.cells #[] 5)) (some ⟨g, o, none⟩) (q + p - q) 0 ((bz.drop q).take p) := by rw [show q + p - q = p by omega]; exact hx
                    clear h0 h3 hF3 h5 hK hq hp ht hxr BL
                    have y8 := S8.c0
                    go_wp2_with (first
                      | (at_builtin; refine wpList_app rfl (.tmp 80) (.tmp 88) rfl W5.heap.size (.slice (some ⟨W5.heap.size, 0, none⟩) 0 0) [] rfl _ _ _ ((bz.drop q).take p) rfl E8 hx' hl9 z8 ?_; intro v7 w7 O7 G7 hat7; rw [List.nil_append] at O7; obtain ⟨A7, n7, c7, e7, r7⟩ := O7.form; subst e7; have BA := (Below.refl w7.heap.size w7).alloc (Nat.le_refl _) (.cells #[.slice A7 n7 c7, .int .i64 0] 41); have BG := (bd0 W5 (.cells #[] 5)).grown G7 z8 (fun q e => by have := E8.lt q e; omega); have C7 := (C5.below BG).below BA; have L8 := RawCt.one' (w := w7) (h := w7.heap.size) A7 n7 c7 0 rfl; have hz9 := Nat.le_trans (Nat.le_trans (Nat.le_trans hb1 b5) BG.size) BA.size)
                      | (at_builtin; refine wpList_appC rfl (.tmp 79) (.tmp 91) rfl (w.heap.size + 2) u6 R rfl _ 1 1 [(A7, n7, c7, 0)] rfl C7 L8 hRl hz9 ?_; intro v9 w9 C9 G9 hat9; have S9 := ((S5.below BG).below BA).farG G9 (fun q e => by have := hu5 q e; omega); have x9 := S9.c0; have f9 := S9.frozen 0))
                    have HF' := HF.out
                    rw [HS.out] at HF'
                    have GX := cell_grown w9 ⟨w.heap.size, 0, none⟩ (.slice none 0 0)
                    have hown7 := O7.lt
                    have BB := BG.trans (BA.mono BG.size)
                    refine ⟨⟨i + 1, by omega, by go_num, RfR.chunk HF' (Z5.below BB) (fun q e => by have := hu5 q e; have := BB.size; omega) (T5.below (BB.mono b5)) hb1 (Nat.le_trans b5 BB.size) (below_then B5 BB) (r7.below BA) (fun q' o' sp e _ => by
                      subst e
                      have h7 := hown7 q' rfl
                      refine ⟨by omega, by have := BA.size; omega, fun e2 => by have := hu5 q' e2.symm; omega⟩) C9 G9 hat9 hcnt (S9.put0 none 0 0) GX⟩, ?_⟩
                    simp [intOf]; omega
                  · have hx := hxr (some ⟨g, o + q, none⟩) (fun h => absurd h hc) (fun _ => rfl)
                    rw [show p = q + p - q by omega] at hl9
                    have hx' : Rd (W5.alloc (.cells #[] 5)) (some ⟨g, o + q, none⟩) (q + p - q) (c3 - q) ((bz.drop q).take p) := by rw [show q + p - q = p by omega]; exact hx
                    clear h0 h3 hF3 h5 hK hq hp ht hxr BL
                    have y8 := S8.c0
                    go_wp2_with (first
                      | (at_builtin; refine wpList_app rfl (.tmp 80) (.tmp 88) rfl W5.heap.size (.slice (some ⟨W5.heap.size, 0, none⟩) 0 0) [] rfl _ _ _ ((bz.drop q).take p) rfl E8 hx' hl9 z8 ?_; intro v7 w7 O7 G7 hat7; rw [List.nil_append] at O7; obtain ⟨A7, n7, c7, e7, r7⟩ := O7.form; subst e7; have BA := (Below.refl w7.heap.size w7).alloc (Nat.le_refl _) (.cells #[.slice A7 n7 c7, .int .i64 0] 41); have BG := (bd0 W5 (.cells #[] 5)).grown G7 z8 (fun q e => by have := E8.lt q e; omega); have C7 := (C5.below BG).below BA; have L8 := RawCt.one' (w := w7) (h := w7.heap.size) A7 n7 c7 0 rfl; have hz9 := Nat.le_trans (Nat.le_trans (Nat.le_trans hb1 b5) BG.size) BA.size)
                      | (at_builtin; refine wpList_appC rfl (.tmp 79) (.tmp 91) rfl (w.heap.size + 2) u6 R rfl _ 1 1 [(A7, n7, c7, 0)] rfl C7 L8 hRl hz9 ?_; intro v9 w9 C9 G9 hat9; have S9 := ((S5.below BG).below BA).farG G9 (fun q e => by have := hu5 q e; omega); have x9 := S9.c0; have f9 := S9.frozen 0))
                    have HF' := HF.out
                    rw [HS.out] at HF'
                    have GX := cell_grown w9 ⟨w.heap.size, 0, none⟩ (.slice none 0 0)
                    have hown7 := O7.lt
                    have BB := BG.trans (BA.mono BG.size)
                    refine ⟨⟨i + 1, by omega, by go_num, RfR.chunk HF' (Z5.below BB) (fun q e => by have := hu5 q e; have := BB.size; omega) (T5.below (BB.mono b5)) hb1 (Nat.le_trans b5 BB.size) (below_then B5 BB) (r7.below BA) (fun q' o' sp e _ => by
                      subst e
                      have h7 := hown7 q' rfl
                      refine ⟨by omega, by have := BA.size; omega, fun e2 => by have := hu5 q' e2.symm; omega⟩) C9 G9 hat9 hcnt (S9.put0 none 0 0) GX⟩, ?_⟩
                    simp [intOf]; omega
            · have HS := Lib.hid (stepB_short h3 h0)
              have v1 : (rdE bz == 0) = false := beq_false_of_ne h0
              have v2 : (rdE bz != 0) = true := bne_iff_ne.2 h0
              have v3 : (rdE bz == 3) = false := beq_false_of_ne h3
              clear h0 h3
              go_wp2
              refine ⟨⟨i + 1, by omega, by go_num, bz, 0, false, C, A3, n3, c3, R, bb, S5, Z5, O5, by rw [HF.out, HS.out, List.append_nil], C5, T5, hap', hb1, b5, B5, by omega⟩, ?_⟩
              simp [intOf]; omega
        · have HF := Lib.hid (feed_at hF hz (stepS_skip hk0))
          have hkp : 0 < k := by have := hkb.1; simp only at this; omega
          have hkt : k ≤ 18446744073709551615 := hkb.2
          clear hF hz hkb hso hk0
          go_wp2
          have G := hS1.put1 (k - 1)
          refine ⟨⟨i + 1, by omega, by go_num, b, k - 1, false, C, A1, n1, c1, R, bb, G, hZ1.farCell ⟨w.heap.size, 1, none⟩ (.int .u64 (k - 1)) (by simp), hO.farCell ⟨w.heap.size, 1, none⟩ (.int .u64 (k - 1)) (hO.low (g := w.heap.size) (by omega)), by rw [HF.out, List.append_nil], ?_, ?_, hap, hb1, by simpa [World.setCell] using hb2, hB.setCell (p := ⟨w.heap.size, 1, none⟩) (Nat.le_refl _) _, by omega⟩, ?_⟩
          · exact hC.grown (row := some w.heap.size) (cell_grown wr ⟨w.heap.size, 1, none⟩ _) (hC.low (g := w.heap.size) (by omega))
          · exact hSt.grownLow (row := some w.heap.size) (cell_grown wr ⟨w.heap.size, 1, none⟩ _) hb2 (fun q e => by injection e with e; omega)
          simp [intOf]; omega
    · have hF' : feed (b0, k0, br0) l = ((b, k, br), C) := by rw [← hF, List.take_of_length_le (by omega)]
      have HF := Lib.hid (show FdK (b0, k0, br0) l (b, k, br) [] C from ⟨by have := feed_sound l hS hP.bytes; rw [hF'] at this; exact this, fun z hz => by simp at hz, by rw [hF']; simp [feed]⟩)
      obtain ⟨Ac, cc, rfl, hrc⟩ := hC.form rfl
      have y0 := hZ1.c0
      have y1 := hZ1.c1
      have y2 := hZ1.c2
      have e0 := hZ1.frozen 0
      have e1 := hZ1.frozen 1
      have e2 := hZ1.frozen 2
      clear hF hF'
      go_wp2
      refine bodyPost_ret (results_cell_row2 rfl _ _ (w.heap.size + 1) 29 #[.slice A1 n1 c1, .int .u64 k, .bool br] (0, 0) _ rfl (hZ1.put3 A1 n1 c1 k br) Try.underlying29 rfl (by kernel_rfl)) rfl ?_
      exact FeedOut.mk' (r := []) (b := b) (k := k) (br := br) HF.out (.inl rfl) hO hC hSt hb1 hb2 hB _ _ _
end Go.Proofs.Ytfihaonpifoekaa
