/- The statements about package hash: awake, HashKey. Conditions: none beyond those typed. -/
import Derived.Test.YtnmhgbdmjgejfaaUdeck
import Derived.Test.YtnmhgbdmjgejfaaIhash
import Derived.Test.YtnmhgbdmjgejfaaUlift
namespace Go.Proofs.Ytnmhgbdmjgejfaa
open Go.ChangeShapes Go.WideShapes Go.ChangeAt Go.RowKit
set_option linter.unusedVariables false
set_option linter.unusedSimpArgs false
set_option maxRecDepth 100000

theorem key_abc : hashP (List.replicate 16 0) 0 ⟨#[97, 98, 99]⟩ = 0 := by decide +kernel
theorem key_nil (t : List Int) (seed : Int) (h : t.length = 16) : hashP t seed ⟨#[]⟩ = hFin seed := by
  unfold hashP; rw [if_pos h]; rfl
theorem fin_32 : hFin 4294967296 = 4294967297 := by decide +kernel
set_option maxHeartbeats 1000000 in
theorem awake_any (w : World) : Calls Try.prog 7 #[] w (Yes w) := by
  obtain ⟨i0, hi0, hz0, hz1, hz2⟩ := info_parts info_u64
  have hby : i0.bytes * 16 ≤ 281474976710656 := by rw [hz2]; omega
  have hmx : 16 ≤ maxLen := by simp only [maxLen]; omega
  have HZ2 := Lib.hid hz2
  clear hz2
  go_enter Try.func7, Try.ntmps7
  go_wp2_with (at_make; refine wpList_make_full _ rfl _ _ 22 rfl w.heap.size 24 i0 _ 1 Try.underlying22 hi0 hz0 hz1 _ _ _ _ 16 rfl rfl rfl rfl hby hmx (Nat.le_refl _) ?_)
  intro W1 hown hgrow
  have O1 : OwnU W1 w.heap.size (.slice (some ⟨w.heap.size, 0, none⟩) 16 16) (List.replicate 16 0) := OwnU.made hown
  have r1 := O1.reads
  have hb1 : Below w.heap.size w W1 := (Below.refl _ _).grown hgrow (Nat.le_refl _) (fun k hk => by cases hk)
  clear hown hgrow hi0 hz0 hz1 hby hmx HZ2 O1
  have K1 := Lib.hid key_abc
  have K2 := Lib.hid ((key_nil (List.replicate 16 0) 4294967296 (by simp)).trans fin_32)
  generalize List.replicate 16 (0 : Int) = z16 at *
  go_wp2_with fail
  refine (hkey_any _ 16 16 z16 0 _ W1 r1 (by omega) (by omega) (by decide)).mono ?_
  rintro e w2 ⟨rfl, hb2⟩
  rw [K1.out]
  have r2 := r1.below hb2
  have hb3 := below_then hb1 hb2
  go_wp2_with fail
  refine (hkey_any _ 16 16 z16 4294967296 _ w2 r2 (by omega) (by omega) (by decide)).mono ?_
  rintro e w4 ⟨rfl, hb4⟩
  rw [K2.out]
  have hb5 := below_then hb3 hb4
  go_wp2_with fail
  refine (hcheck_any _ 16 16 w4 (by omega)).mono ?_
  rintro e w5 ⟨rfl, rfl⟩
  rw [show tabE 16 = 0 from rfl]
  go_wp2
  go_ret
  exact ⟨rfl, hb5⟩
set_option maxHeartbeats 1000000 in
theorem hashKey_walk (A : Option Addr) (n c : Nat) (B : Option Addr) (m d : Nat) (seed : Int) (key : ByteArray) (w : World) (hA : ArgU w A n c) (hB : RdI w B m d) (h0 : 0 ≤ seed) (h1 : seed ≤ 18446744073709551615) (hk : key.size ≤ 9223372036854775807) :
    Calls Try.prog 3 #[.slice A n c, .slice B m d, .int .u64 seed, .string key] w (Yes w) := by
  obtain ⟨l, hR⟩ := hA
  have hmx := hR.max
  have hcap := hR.cap
  by_cases hbig : 40 < n ∨ 300 < key.size
  · by_cases hn : 40 < n
    · go_enter Try.func3, Try.ntmps3
      go_wp2_with fail
      refine (awake_any _).mono ?_
      rintro e w2 ⟨rfl, hb2⟩
      go_wp2
      go_ret
      exact ⟨rfl, hb2⟩
    · have hs : 300 < key.size := hbig.resolve_left hn
      have hsi : (300 : Int) < (key.size : Int) := by omega
      go_enter Try.func3, Try.ntmps3
      go_wp2_with fail
      refine (awake_any _).mono ?_
      rintro e w2 ⟨rfl, hb2⟩
      go_wp2
      go_ret
      exact ⟨rfl, hb2⟩
  have hn : ¬ 40 < n := fun h => hbig (.inl h)
  have hs : ¬ 300 < key.size := fun h => hbig (.inr h)
  have hsi : ¬ (300 : Int) < (key.size : Int) := by omega
  go_enter Try.func3, Try.ntmps3
  go_wp2_with fail
  refine (new_any _ _ _ _).mono ?_
  rintro e w1 ⟨rfl, rfl⟩
  have hD := Dk.new hB
  go_wp2_with fail
  refine (table_dk hD).mono ?_
  rintro e w2 ⟨k2, c2, t, rfl, hT, hk2, hD2, -⟩
  have hb2 := hD2.low
  have hRl := hR.below hb2
  clear hD hD2
  go_wp2_with fail
  refine (hcheck_any A n c w2 (by omega)).mono ?_
  rintro e w3 ⟨rfl, rfl⟩
  go_wp2_with fail
  refine (rtable_any A n c w2 (by omega)).mono ?_
  rintro e w3 ⟨rfl, rfl⟩
  generalize tabE n = te at *
  go_wp2_with fail
  refine (hkey_any A n c l seed key w2 hRl h0 h1 hk).mono ?_
  rintro e w4 ⟨rfl, hb4⟩
  have hR4 := hRl.below hb4
  have hT4 := hT.below hb4
  have hb5 := below_then hb2 hb4
  go_wp2_with fail
  refine (rhash_any A n c l seed key w4 hR4 h0 h1 hk).mono ?_
  rintro e w5 ⟨rfl, j5, rfl⟩
  generalize hashP l seed key = hp at *
  go_wp2_with fail
  refine (hkey_any _ 16 c2 t seed key _ (hT4.drewN j5) h0 h1 hk).mono ?_
  rintro e w6 ⟨rfl, hb6⟩
  have hT6 := (hT4.drewN j5).below hb6
  have hb7 := below_then (below_drewN hb5 j5) hb6
  go_wp2_with fail
  refine (rhash_any _ 16 c2 t seed key w6 hT6 h0 h1 hk).mono ?_
  rintro e w7 ⟨rfl, j7, rfl⟩
  generalize hashP t seed key = hq at *
  go_wp2_with fail
  refine (awake_any _).mono ?_
  rintro e w8 ⟨rfl, hb8⟩
  have hb9 := below_then (below_drewN hb7 j7) hb8
  go_wp2
  go_ret
  exact ⟨rfl, hb9⟩

set_option maxHeartbeats 1000000 in
theorem hashSlot_walk (h n : Int) (w : World) (h0 : 0 ≤ h) (h1 : h ≤ 18446744073709551615) (hn0 : 0 ≤ n) (hn1 : n ≤ 65535) :
    Calls Try.prog 5 #[.int .u64 h, .int .u16 n] w (Yes w) := by
  have hp : slotP h (1 + n) = h % (1 + n) := if_neg (by omega)
  have HP := Lib.hid hp
  have HZ := Lib.hid (show slotP h 0 = 0 from if_pos (by omega))
  have HN := Lib.hid (show slotP h (-(1 + n)) = 0 from if_pos (by omega))
  have hm0 := Int.emod_nonneg h (show 1 + n ≠ 0 by omega)
  have hm1 := Int.emod_lt_of_pos h (show 0 < 1 + n by omega)
  have ht : h.tmod (1 + n) = h % (1 + n) := Int.tmod_eq_emod_of_nonneg h0
  have z1 : ¬ 1 + n = 0 := by omega
  have z2 : (1 + n == 0) = false := beq_false_of_ne z1
  clear hp
  go_enter Try.func5, Try.ntmps5
  go_wp2_with fail
  refine (hslot_any h (1 + n) w h0 h1 (by omega) (by omega)).mono ?_
  rintro e w2 ⟨rfl, rfl⟩
  rw [HP.out]
  go_wp2_with fail
  refine (hslot_any h 0 w h0 h1 (by omega) (by omega)).mono ?_
  rintro e w2 ⟨rfl, rfl⟩
  rw [HZ.out]
  go_wp2_with fail
  refine (hslot_any h (-(1 + n)) w h0 h1 (by omega) (by omega)).mono ?_
  rintro e w2 ⟨rfl, rfl⟩
  rw [HN.out]
  go_wp2_with fail
  refine (awake_any _).mono ?_
  rintro e w8 ⟨rfl, hb8⟩
  go_wp2
  go_ret
  exact ⟨rfl, hb8⟩
theorem hAll_zero : ∀ key : List UInt8, hAll (List.replicate 16 0) 0 key = 0 := by
  intro key
  unfold hAll
  induction key with
  | nil => rfl
  | cons b r ih =>
    have e : hStep (List.replicate 16 0) 0 b.toNat = 0 := by
      have g : ∀ q, (List.replicate 16 (0 : Int)).getD q 0 = 0 := fun q => by
        rw [List.getD_eq_getElem?_getD, List.getElem?_replicate]
        split <;> rfl
      unfold hStep
      rw [g, g]
      decide +kernel
    rw [List.foldl_cons, e]
    exact ih
theorem hashP_zero (key : ByteArray) : hashP (List.replicate 16 0) 0 key = 0 := by
  unfold hashP
  rw [if_pos (by simp), hAll_zero]
  decide +kernel
set_option maxHeartbeats 1000000 in
theorem hashRow_walk (B : Option Addr) (m d : Nat) (seed row : Int) (key : ByteArray) (h n : Int) (w : World) (hB : RdI w B m d) (h0 : 0 ≤ seed) (h1 : seed ≤ 18446744073709551615) (hr0 : -9223372036854775808 ≤ row) (hr1 : row ≤ 9223372036854775807) (hk : key.size ≤ 9223372036854775807)
    (hh0 : 0 ≤ h) (hh1 : h ≤ 18446744073709551615) (hn0 : -9223372036854775808 ≤ n) (hn1 : n ≤ 9223372036854775807) :
    Calls Try.prog 4 #[.slice B m d, .int .u64 seed, .int .i64 row, .string key, .int .u64 h, .int .i64 n] w (Yes w) := by
  by_cases hs : 300 < key.size
  · have hsi : (300 : Int) < (key.size : Int) := by omega
    go_enter Try.func4, Try.ntmps4
    go_wp2_with fail
    refine (awake_any _).mono ?_
    rintro e w2 ⟨rfl, hb2⟩
    go_wp2
    go_ret
    exact ⟨rfl, hb2⟩
  have hsi : ¬ (300 : Int) < (key.size : Int) := by omega
  have hm := bits_within .and .i64 row 3
  have hm2 := bits_within .and .i64 n 255
  go_enter Try.func4, Try.ntmps4
  go_wp2_with fail
  refine (new_any _ _ _ _).mono ?_
  rintro e w1 ⟨rfl, rfl⟩
  have hD := Dk.new hB
  go_wp2_with fail
  refine (table_dk hD).mono ?_
  rintro e w2 ⟨k2, c2, t, rfl, hT, hk2, hD2, -⟩
  have hb2 := hD2.low
  clear hD hD2
  go_wp2_with fail
  refine (hrow_any _ 16 c2 t seed row key w2 hT h0 h1 hr0 hr1 hk).mono ?_
  rintro e w4 ⟨rfl, hb4⟩
  have hT4 := hT.below hb4
  have hb5 := below_then hb2 hb4
  go_wp2_with fail
  refine (rrow_any _ 16 c2 t seed row key w4 hT4 h0 h1 hr0 hr1 hk).mono ?_
  rintro e w5 ⟨rfl, j5, rfl⟩
  generalize rowP t seed row key = hp at *
  go_wp2_with fail
  refine (hrow_any _ 16 c2 t seed _ key _ (hT4.drewN j5) h0 h1 hm.1 hm.2 hk).mono ?_
  rintro e w6 ⟨rfl, hb6⟩
  have hT6 := (hT4.drewN j5).below hb6
  have hb7 := below_then (below_drewN hb5 j5) hb6
  go_wp2_with fail
  refine (rrow_any _ 16 c2 t seed _ key w6 hT6 h0 h1 hm.1 hm.2 hk).mono ?_
  rintro e w7 ⟨rfl, j7, rfl⟩
  generalize rowP t seed (bits .and .i64 row 3) key = hq at *
  have hb8 := below_drewN hb7 j7
  generalize w6.drewN j7 = W7 at *
  go_wp2_with fail
  refine (hslot_any h n W7 hh0 hh1 hn0 hn1).mono ?_
  rintro e w8 ⟨rfl, rfl⟩
  go_wp2_with fail
  refine (rslot_any h n W7 hh0 hh1 hn0 hn1).mono ?_
  rintro e w8 ⟨rfl, rfl⟩
  generalize slotP h n = s1 at *
  go_wp2_with fail
  refine (hslot_any h _ W7 hh0 hh1 hm2.1 hm2.2).mono ?_
  rintro e w8 ⟨rfl, rfl⟩
  go_wp2_with fail
  refine (rslot_any h _ W7 hh0 hh1 hm2.1 hm2.2).mono ?_
  rintro e w8 ⟨rfl, rfl⟩
  generalize slotP h (bits .and .i64 n 255) = s2 at *
  go_wp2_with fail
  refine (awake_any _).mono ?_
  rintro e w9 ⟨rfl, hb9⟩
  have hb10 := below_then hb8 hb9
  go_wp2
  go_ret
  exact ⟨rfl, hb10⟩
set_option maxHeartbeats 1000000 in
theorem hashEnds_walk (B : Option Addr) (m d : Nat) (seed : Int) (key : ByteArray) (w : World) (hB : RdI w B m d) (h0 : 0 ≤ seed) (h1 : seed ≤ 18446744073709551615) (hk : key.size ≤ 9223372036854775807) :
    Calls Try.prog 6 #[.slice B m d, .int .u64 seed, .string key] w (Yes w) := by
  by_cases hs : 300 < key.size
  · have hsi : (300 : Int) < (key.size : Int) := by omega
    go_enter Try.func6, Try.ntmps6
    go_wp2_with fail
    refine (awake_any _).mono ?_
    rintro e w2 ⟨rfl, hb2⟩
    go_wp2
    go_ret
    exact ⟨rfl, hb2⟩
  have hsi : ¬ (300 : Int) < (key.size : Int) := by omega
  obtain ⟨i0, hi0, hz0, hz1, hz2⟩ := info_parts info_u64
  have hby : i0.bytes * 16 ≤ 281474976710656 := by rw [hz2]; omega
  have hmx : 16 ≤ maxLen := by simp only [maxLen]; omega
  have HZ2 := Lib.hid hz2
  clear hz2
  go_enter Try.func6, Try.ntmps6
  go_wp2_with fail
  refine (new_any _ _ _ _).mono ?_
  rintro e w1 ⟨rfl, rfl⟩
  have hD := Dk.new hB
  go_wp2_with fail
  refine (table_dk hD).mono ?_
  rintro e w2 ⟨k2, c2, t, rfl, hT, hk2, hD2, -⟩
  have hb2 := hD2.low
  have K1 := Lib.hid (key_nil t seed hT.len)
  have K2 := Lib.hid (show hFin seed = bits .xor .u64 seed (seed / 4294967296) from rfl)
  clear hD hD2
  go_wp2_with fail
  refine (hkey_any _ 16 c2 t seed _ w2 hT h0 h1 (by decide)).mono ?_
  rintro e w4 ⟨rfl, hb4⟩
  rw [K1.out, K2.out]
  have hT4 := hT.below hb4
  have hb5 := below_then hb2 hb4
  have i1 : (3 : Int) ≤ (c2 : Int) := by have := hT.cap; omega
  have hmx2 := hT.max
  obtain ⟨W5, hrun, hown, hgrow⟩ := run_make_full (P := Try.prog) w4 w4.heap.size 22 24 i0 _ 1 Try.underlying22 hi0 hz0 hz1 .i64 .i64 16 hby hmx (Nat.le_refl _)
  have O5 : OwnU W5 w4.heap.size (.slice (some ⟨w4.heap.size, 0, none⟩) 16 16) (List.replicate 16 0) := OwnU.made hown
  have r5 := O5.reads
  have hb6 : Below w.heap.size w W5 := hb5.grown hgrow hb5.size (fun k hk => by cases hk)
  have b45 : Below w4.heap.size w4 W5 := (Below.refl _ _).grown hgrow (Nat.le_refl _) (fun k hk => by cases hk)
  have HRUN := Lib.hid hrun
  clear hrun
  go_wp2
  rw [show ((16 : Nat) : Int) = 16 from rfl] at HRUN
  rw [HRUN.out]
  go_wp2_with fail
  have hT5 := hT4.below b45
  have K3 := Lib.hid (hashP_zero key)
  clear hown hgrow hi0 hz0 hz1 hby hmx HZ2 O5 b45
  generalize List.replicate 16 (0 : Int) = z16 at *
  refine (hkey_any _ 16 16 z16 0 key W5 r5 (by omega) (by omega) hk).mono ?_
  rintro e w6 ⟨rfl, hb7⟩
  rw [K3.out]
  have hT6 := hT5.below hb7
  have hb8 := below_then hb6 hb7
  have hT3 := hT6.take (k := 3) (by omega)
  have K4 := Lib.hid (show hashP (t.take 3) seed key = 0 from if_neg (by have := hT3.len; omega))
  go_wp2_with fail
  refine (hkey_any _ 3 c2 (t.take 3) seed key w6 hT3 h0 h1 hk).mono ?_
  rintro e w7 ⟨rfl, hb9⟩
  rw [K4.out]
  have hb10 := below_then hb8 hb9
  go_wp2_with fail
  refine (awake_any _).mono ?_
  rintro e w8 ⟨rfl, hb11⟩
  have hb12 := below_then hb10 hb11
  go_wp2
  go_ret
  exact ⟨rfl, hb12⟩
end Go.Proofs.Ytnmhgbdmjgejfaa
