/- Package hash: Check, Key, Row, Slot. Conditions: none beyond those typed. -/
import Derived.Test.YtcckfdhajbbieaaUrow
namespace Go.Proofs.Ytcckfdhajbbieaa
open Go.ChangeShapes Go.WideShapes Go.ChangeAt Go.RowKit
set_option linter.unusedVariables false
set_option linter.unusedSimpArgs false
set_option maxRecDepth 100000

set_option maxHeartbeats 400000 in
theorem rot5_any (h : Int) (w : World) (h0 : 0 ≤ h) (h1 : h ≤ 18446744073709551615) :
    Calls Try.prog 44 #[.int .u64 h, .int .u64 5] w fun e w' => e = .returned (.int .u64 (rotU h 5)) ∧ w = w' := by
  have HR := Lib.hid (show rotU h 5 = bits .or .u64 (IntKind.u64.wrap (h * 32)) (h / 576460752303423488) from rfl)
  go_enter Try.func44, Try.ntmps44
  go_wp2
  go_ret
  exact ⟨ret_w HR.out.symm, rfl⟩
set_option maxHeartbeats 400000 in
theorem rot7_any (h : Int) (w : World) (h0 : 0 ≤ h) (h1 : h ≤ 18446744073709551615) :
    Calls Try.prog 44 #[.int .u64 h, .int .u64 7] w fun e w' => e = .returned (.int .u64 (rotU h 7)) ∧ w = w' := by
  have HR := Lib.hid (show rotU h 7 = bits .or .u64 (IntKind.u64.wrap (h * 128)) (h / 144115188075855872) from rfl)
  go_enter Try.func44, Try.ntmps44
  go_wp2
  go_ret
  exact ⟨ret_w HR.out.symm, rfl⟩
set_option maxHeartbeats 400000 in
theorem hcheck_any (A : Option Addr) (n c : Nat) (w : World) (hn : n ≤ 9223372036854775807) :
    Calls Try.prog 26 #[.slice A n c] w fun e w' => e = .returned (.int .i64 (tabE n)) ∧ w = w' := by
  by_cases h : n = 16
  · subst h
    go_enter Try.func26, Try.ntmps26
    go_wp2
    go_ret
    exact ⟨rfl, rfl⟩
  · have HR := Lib.hid (show tabE n = 11 from if_neg h)
    have hv : ((n : Int) != 16) = true := bne_iff_ne.2 (by omega)
    go_enter Try.func26, Try.ntmps26
    go_wp2
    go_ret
    exact ⟨ret_i64 HR.out.symm, rfl⟩
set_option maxHeartbeats 1000000 in
theorem mix_any (b : Option Addr) (c : Nat) (t : List Int) (h : Int) (x : Nat) (w : World) (hR : RdU w b 16 c t) (h0 : 0 ≤ h) (h1 : h ≤ 18446744073709551615) (hc : x < 256) :
    Calls Try.prog 43 #[.slice b 16 c, .int .u64 h, .int .u8 x] w fun e w' => e = .returned (.int .u64 (hStep t h x)) ∧ w' = w.drewN 2 := by
  have hmx := hR.max
  have hcap := hR.cap
  obtain ⟨q, hq⟩ : ∃ q : Nat, (x : Int) / 16 = q := ⟨x / 16, by omega⟩
  obtain ⟨r, hr⟩ : ∃ r : Nat, (x : Int) % 16 = r := ⟨x % 16, by omega⟩
  have hq2 : (x : Int).tdiv 16 = q := by rw [Int.tdiv_eq_ediv_of_nonneg (by omega)]; exact hq
  have hr2 : (x : Int).tmod 16 = r := by rw [Int.tmod_eq_emod_of_nonneg (by omega)]; exact hr
  obtain ⟨b1, o1, z1, e1, g1, z10, z11, hbl, c1⟩ := hR.at_ (k := q) (by omega)
  obtain ⟨b2, o2, z2, e2, g2, z20, z21, _, c2⟩ := hR.at_ (k := r) (by omega)
  subst e1
  injection e2 with e2; injection e2 with e21 e22; subst e21 e22
  have HS2 := Lib.hid (show hStep t h x = IntKind.u64.wrap (IntKind.u64.wrap (rotU (bits .xor .u64 (rotU h 5) z1) 7 + z2) * 11400714819323198485) by
    unfold hStep
    rw [show x / 16 = q by omega, show x % 16 = r by omega, List.getD_eq_getElem?_getD, List.getD_eq_getElem?_getD, g1, g2]
    rfl)
  have hq3 : x / 16 = q := by omega
  have hr3 : x % 16 = r := by omega
  have qw : IntKind.u8.wrap (q : Int) = q := wrap_u8' _ (by omega) (by omega)
  have rw' : IntKind.u8.wrap (r : Int) = r := wrap_u8' _ (by omega) (by omega)
  have q0 : (0 : Int) ≤ (q : Int) := by omega
  have r0 : (0 : Int) ≤ (r : Int) := by omega
  have qi : (q : Int) < 16 := by omega
  have ri : (r : Int) < 16 := by omega
  have hbb := rotU_bd h 5
  have hx := bits_within .xor .u64 (rotU h 5) z1
  have hb7 := rotU_bd (bits .xor .u64 (rotU h 5) z1) 7
  clear g1 g2 hbl hR
  go_enter Try.func43, Try.ntmps43
  go_wp2
  go_region_held3 (fun w' => w'.cell? ⟨b1, o1 + q, none⟩ = some (.int .u64 z1)) (first | exact c1 | assumption) (first | (go_at_call 44; refine (rot5_any h _ h0 h1).mono ?_; rintro e w' ⟨rfl, rfl⟩))
  all_goals
    go_wp2
    go_region_held3 (fun w' => w'.cell? ⟨b1, o1 + r, none⟩ = some (.int .u64 z2)) (first | exact c2 | assumption) (first | (go_at_call 44; refine (rot7_any (bits .xor .u64 (rotU h 5) z1) _ hx.1 hx.2).mono ?_; rintro e w' ⟨rfl, rfl⟩))
    all_goals
      go_wp2
      go_ret
      exact ⟨ret_w HS2.out.symm, rfl⟩
set_option maxHeartbeats 1000000 in
theorem hkey_drawn (A : Option Addr) (n c : Nat) (t : List Int) (seed : Int) (key : ByteArray) (w : World) (hR : RdU w A n c t) (h0 : 0 ≤ seed) (h1 : seed ≤ 18446744073709551615) (hk : key.size ≤ 9223372036854775807) :
    Calls Try.prog 41 #[.slice A n c, .int .u64 seed, .string key] w fun e w' => e = .returned (.int .u64 (hashP t seed key)) ∧ ∃ j, w' = w.drewN j := by
  have hmx := hR.max
  have hcap := hR.cap
  have hln := hR.len
  by_cases h16 : n = 16
  · subst h16
    have HP := Lib.hid (show hashP t seed key = hFin (hAll t seed key.data.toList) from if_pos hln)
    have HT := Lib.hid (show tabE 16 = 0 from rfl)
    clear hln
    go_enter Try.func41, Try.ntmps41
    go_wp2_with fail
    refine (hcheck_any _ _ _ _ (by omega)).mono ?_
    rintro e w' ⟨rfl, rfl⟩
    rw [HT.out]
    go_wp2
    go_loopw [7, 15] (fun h i wr => ∃ k j : Nat, k ≤ key.size ∧ i = .int .i64 k ∧ h = .int .u64 (hAll t seed (key.data.toList.take k)) ∧ wr = w.drewN j) (fun _ i _ => key.size - (intOf i).toNat)
    case atStart => exact ⟨0, 0, Nat.zero_le _, rfl, rfl, rfl⟩
    case round =>
      obtain ⟨k, j, hkk, rfl, rfl, rfl⟩ := hrel
      have hbd := hAll_bd t seed ⟨h0, h1⟩ (key.data.toList.take k)
      by_cases hlt : k < key.size
      · have HS := Lib.hid (hAll_take t seed key hlt)
        have hc : key[k].toNat < 256 := key[k].toNat_lt
        generalize hAll t seed (key.data.toList.take k) = h at *
        go_wp2_with fail
        refine (mix_any A c t h key[k].toNat _ (hR.drewN j) hbd.1 hbd.2 hc).mono ?_
        rintro e w' ⟨rfl, rfl⟩
        go_wp2
        go_roundw
        case rel => exact ⟨k + 1, j + 1 + 1, by omega, by go_num, by rw [HS.out], rfl⟩
        case measure => (simp [intOf] <;> omega)
      · have he : key.data.toList.take k = key.data.toList := List.take_of_length_le (by simp; omega)
        rw [he] at hbd ⊢
        generalize hAll t seed key.data.toList = h at *
        go_wp2
        go_ret
        exact ⟨ret_w HP.out.symm, _, rfl⟩
  · have HP := Lib.hid (show hashP t seed key = 0 from if_neg (by omega))
    have HT := Lib.hid (show tabE n = 11 from if_neg h16)
    go_enter Try.func41, Try.ntmps41
    go_wp2_with fail
    refine (hcheck_any _ _ _ _ (by omega)).mono ?_
    rintro e w' ⟨rfl, rfl⟩
    rw [HT.out]
    go_wp2
    go_ret
    exact ⟨ret_w HP.out.symm, 0, rfl⟩

set_option maxHeartbeats 400000 in
theorem hrow_drawn (A : Option Addr) (n c : Nat) (t : List Int) (seed row : Int) (key : ByteArray) (w : World) (hR : RdU w A n c t) (h0 : 0 ≤ seed) (h1 : seed ≤ 18446744073709551615) (h2 : -9223372036854775808 ≤ row) (h3 : row ≤ 9223372036854775807) (hk : key.size ≤ 9223372036854775807) :
    Calls Try.prog 39 #[.slice A n c, .int .u64 seed, .int .i64 row, .string key] w fun e w' => e = .returned (.int .u64 (rowP t seed row key)) ∧ ∃ j, w' = w.drewN j := by
  go_enter Try.func39, Try.ntmps39
  go_wp2_with fail
  refine (hkey_drawn A n c t _ key w hR (u64_bd _).1 (u64_bd _).2 hk).mono ?_
  rintro e w' ⟨rfl, j, rfl⟩
  go_wp2
  go_ret
  exact ⟨rfl, j, rfl⟩
set_option maxHeartbeats 400000 in
theorem hslot_any (h n : Int) (w : World) (h0 : 0 ≤ h) (h1 : h ≤ 18446744073709551615) (h2 : -9223372036854775808 ≤ n) (h3 : n ≤ 9223372036854775807) :
    Calls Try.prog 38 #[.int .u64 h, .int .i64 n] w fun e w' => e = .returned (.int .i64 (slotP h n)) ∧ w = w' := by
  by_cases hn : n < 1
  · have HP := Lib.hid (show slotP h n = 0 from if_pos hn)
    go_enter Try.func38, Try.ntmps38
    go_wp2
    go_ret
    exact ⟨ret_i64 HP.out.symm, rfl⟩
  · have HP := Lib.hid (show slotP h n = h % n from if_neg hn)
    have hz : ¬ n = 0 := by omega
    have hz2 : (n == 0) = false := beq_false_of_ne hz
    have hm0 := Int.emod_nonneg h hz
    have hm1 := Int.emod_lt_of_pos h (show 0 < n by omega)
    have ht : h.tmod n = h % n := Int.tmod_eq_emod_of_nonneg h0
    go_enter Try.func38, Try.ntmps38
    go_wp2
    go_ret
    exact ⟨ret_i64 HP.out.symm, rfl⟩
theorem hkey_any (A : Option Addr) (n c : Nat) (t : List Int) (seed : Int) (key : ByteArray) (w : World) (hR : RdU w A n c t) (h0 : 0 ≤ seed) (h1 : seed ≤ 18446744073709551615) (hk : key.size ≤ 9223372036854775807) :
    Calls Try.prog 41 #[.slice A n c, .int .u64 seed, .string key] w fun e w' => e = .returned (.int .u64 (hashP t seed key)) ∧ Below w.heap.size w w' :=
  (hkey_drawn A n c t seed key w hR h0 h1 hk).mono fun e w' ⟨he, j, hj⟩ => ⟨he, by rw [hj]; exact below_drewN (Below.refl _ _) j⟩
theorem hrow_any (A : Option Addr) (n c : Nat) (t : List Int) (seed row : Int) (key : ByteArray) (w : World) (hR : RdU w A n c t) (h0 : 0 ≤ seed) (h1 : seed ≤ 18446744073709551615) (h2 : -9223372036854775808 ≤ row) (h3 : row ≤ 9223372036854775807) (hk : key.size ≤ 9223372036854775807) :
    Calls Try.prog 39 #[.slice A n c, .int .u64 seed, .int .i64 row, .string key] w fun e w' => e = .returned (.int .u64 (rowP t seed row key)) ∧ Below w.heap.size w w' :=
  (hrow_drawn A n c t seed row key w hR h0 h1 h2 h3 hk).mono fun e w' ⟨he, j, hj⟩ => ⟨he, by rw [hj]; exact below_drewN (Below.refl _ _) j⟩
end Go.Proofs.Ytcckfdhajbbieaa
