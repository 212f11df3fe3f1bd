/- Words for slices of uint64, and the specified hash as a plain function. Conditions: none beyond those typed. -/
import Derived.Test.YtcckfdhajbbieaaBase
import Derived.Test.YtcckfdhajbbieaaBm
import Derived.Laws.Closers25b
import Derived.Deep.RegionHeld3
namespace Go.Proofs.Ytcckfdhajbbieaa
open Go.ChangeShapes Go.WideShapes Go.ChangeAt Go.RowKit
set_option linter.unusedVariables false
set_option linter.unusedSimpArgs false
set_option maxRecDepth 100000

/-- The slice value '.slice A n c' reads as these numbers of 64 bits. -/
def RdU (w : World) (A : Option Addr) (n c : Nat) (l : List Int) : Prop :=
  l.length = n ∧ n ≤ c ∧ c ≤ maxLen ∧ (∀ z ∈ l, 0 ≤ z ∧ z ≤ 18446744073709551615) ∧
    ∀ j z, l[j]? = some z → ∃ b o, A = some ⟨b, o, none⟩ ∧ w.cell? ⟨b, o + j, none⟩ = some (.int .u64 z)
section
variable {w w' : World} {A : Option Addr} {n c : Nat} {l : List Int}
theorem RdU.len (h : RdU w A n c l) : l.length = n := h.1
theorem RdU.cap (h : RdU w A n c l) : n ≤ c := h.2.1
theorem RdU.max (h : RdU w A n c l) : c ≤ 9223372036854775807 := h.2.2.1
theorem RdU.at_ (h : RdU w A n c l) {k : Nat} (hk : k < n) :
    ∃ b o z, A = some ⟨b, o, none⟩ ∧ l[k]? = some z ∧ 0 ≤ z ∧ z ≤ 18446744073709551615 ∧ b < w.heap.size ∧ w.cell? ⟨b, o + k, none⟩ = some (.int .u64 z) := by
  have hl : k < l.length := by rw [h.1]; exact hk
  have hg : l[k]? = some l[k] := List.getElem?_eq_getElem hl
  obtain ⟨b, o, hA, hc⟩ := h.2.2.2.2 k _ hg
  have hb := h.2.2.2.1 _ (List.getElem_mem hl)
  exact ⟨b, o, l[k], hA, hg, hb.1, hb.2, World.block_lt_of_cell? w ⟨b, o + k, none⟩ hc, hc⟩
theorem RdU.below (h : RdU w A n c l) (hb : Below w.heap.size w w') : RdU w' A n c l :=
  ⟨h.1, h.2.1, h.2.2.1, h.2.2.2.1, fun j z hz => by
    obtain ⟨b, o, hA, hc⟩ := h.2.2.2.2 j z hz
    exact ⟨b, o, hA, (hb.cell (World.block_lt_of_cell? w _ hc)).trans hc⟩⟩
theorem RdU.drewN (h : RdU w A n c l) (k : Nat) : RdU (w.drewN k) A n c l := h
theorem RdU.take (h : RdU w A n c l) {k : Nat} (hk : k ≤ n) : RdU w A k c (l.take k) := by
  refine ⟨by rw [List.length_take, h.1]; omega, Nat.le_trans hk h.2.1, h.2.2.1, fun z hz => h.2.2.2.1 z (List.mem_of_mem_take hz), fun j z hz => ?_⟩
  rw [List.getElem?_take] at hz
  split at hz
  · exact h.2.2.2.2 j z hz
  · cases hz
end
/-- rot: P7.2, as the model reckons. -/
def rotU (h : Int) (k : Nat) : Int := bits .or .u64 (IntKind.u64.wrap (h * 2 ^ k)) (h / 2 ^ (64 - k))
theorem rotU_bd (h : Int) (k : Nat) : 0 ≤ rotU h k ∧ rotU h k ≤ 18446744073709551615 := ⟨bits_lo_u64 _ _ _, bits_hi_u64 _ _ _⟩
theorem ret_w {a b : Int} (h : a = b) : Ending.returned (.int .u64 a) = .returned (.int .u64 b) := by rw [h]
set_option maxHeartbeats 400000 in
theorem rrot5_any (h : Int) (w : World) (h0 : 0 ≤ h) (h1 : h ≤ 18446744073709551615) :
    Calls Try.prog 42 #[.int .u64 h, .int .u64 5] w fun e w' => e = .returned (.int .u64 (rotU h 5)) ∧ w = w' := by
  have HR := Lib.hid (show rotU h 5 = bits .or .u64 (IntKind.u64.wrap (h * 32)) (h / 576460752303423488) from rfl)
  go_enter Try.func42, Try.ntmps42
  go_wp2
  go_ret
  exact ⟨ret_w HR.out.symm, rfl⟩
set_option maxHeartbeats 400000 in
theorem rrot7_any (h : Int) (w : World) (h0 : 0 ≤ h) (h1 : h ≤ 18446744073709551615) :
    Calls Try.prog 42 #[.int .u64 h, .int .u64 7] w fun e w' => e = .returned (.int .u64 (rotU h 7)) ∧ w = w' := by
  have HR := Lib.hid (show rotU h 7 = bits .or .u64 (IntKind.u64.wrap (h * 128)) (h / 144115188075855872) from rfl)
  go_enter Try.func42, Try.ntmps42
  go_wp2
  go_ret
  exact ⟨ret_w HR.out.symm, rfl⟩
def tabE (n : Nat) : Int := if n = 16 then 0 else 11
set_option maxHeartbeats 400000 in
theorem rtable_any (A : Option Addr) (n c : Nat) (w : World) (hn : n ≤ 9223372036854775807) :
    Calls Try.prog 28 #[.slice A n c] w fun e w' => e = .returned (.int .i64 (tabE n)) ∧ w = w' := by
  by_cases h : n = 16
  · subst h
    go_enter Try.func28, Try.ntmps28
    go_wp2
    go_ret
    exact ⟨rfl, rfl⟩
  · have HR := Lib.hid (show tabE n = 11 from if_neg h)
    have hv : ((n : Int) != 16) = true := bne_iff_ne.2 (by omega)
    go_enter Try.func28, Try.ntmps28
    go_wp2
    go_ret
    exact ⟨ret_i64 HR.out.symm, rfl⟩
theorem wrap_u8' (x : Int) (h0 : 0 ≤ x) (h1 : x ≤ 255) : IntKind.u8.wrap x = x := by
  simp [IntKind.wrap, IntKind.bits, IntKind.signed]
  omega
/-- One byte of a key. -/
def hStep (t : List Int) (h : Int) (b : Nat) : Int := IntKind.u64.wrap (IntKind.u64.wrap (rotU (bits .xor .u64 (rotU h 5) (t.getD (b / 16) 0)) 7 + t.getD (b % 16) 0) * 11400714819323198485)
def hAll (t : List Int) (h : Int) (key : List UInt8) : Int := key.foldl (fun h b => hStep t h b.toNat) h
def hFin (h : Int) : Int := bits .xor .u64 h (h / 4294967296)
/-- hash.Key, P7.2. -/
def hashP (t : List Int) (seed : Int) (key : ByteArray) : Int := if t.length = 16 then hFin (hAll t seed key.data.toList) else 0
theorem hAll_take (t : List Int) (h : Int) (key : ByteArray) {k : Nat} (hk : k < key.size) : hAll t h (key.data.toList.take (k + 1)) = hStep t (hAll t h (key.data.toList.take k)) key[k].toNat := by
  have e : key.data.toList[k]? = some key[k] := by
    rw [List.getElem?_eq_getElem (by simpa using hk)]; rfl
  rw [List.take_add_one, e]
  simp [hAll]
theorem u64_bd (x : Int) : 0 ≤ IntKind.u64.wrap x ∧ IntKind.u64.wrap x ≤ 18446744073709551615 := wrap_within .u64 x
theorem hAll_bd (t : List Int) (h : Int) (hh : 0 ≤ h ∧ h ≤ 18446744073709551615) : ∀ key : List UInt8, 0 ≤ hAll t h key ∧ hAll t h key ≤ 18446744073709551615 := by
  intro key
  unfold hAll
  induction key generalizing h with
  | nil => exact hh
  | cons b r ih => exact ih _ (u64_bd _)
set_option maxHeartbeats 1000000 in
theorem rhash_any (A : Option Addr) (n c : Nat) (t : List Int) (seed : Int) (key : ByteArray) (w : World) (hR : RdU w A n c t) (h0 : 0 ≤ seed) (h1 : seed ≤ 18446744073709551615) (hk : key.size ≤ 9223372036854775807) :
    Calls Try.prog 40 #[.slice A n c, .int .u64 seed, .string key] w fun e w' => e = .returned (.int .u64 (hashP t seed key)) ∧ ∃ j, w' = w.drewN j := by
  have hmx := hR.max
  have hcap := hR.cap
  have hln := hR.len
  by_cases h16 : n = 16
  · subst h16
    have HP := Lib.hid (show hashP t seed key = hFin (hAll t seed key.data.toList) from if_pos hln)
    have HT := Lib.hid (show tabE 16 = 0 from rfl)
    obtain ⟨b, o, z, rfl, _⟩ := hR.at_ (k := 0) (by omega)
    clear hln
    go_enter Try.func40, Try.ntmps40
    go_wp2_with fail
    refine (rtable_any _ _ _ _ (by omega)).mono ?_
    rintro e w' ⟨rfl, rfl⟩
    rw [HT.out]
    go_wp2
    go_loopw [7, 8] (fun h i wr => ∃ k j : Nat, k ≤ key.size ∧ i = .int .i64 k ∧ h = .int .u64 (hAll t seed (key.data.toList.take k)) ∧ wr = w.drewN j) (fun _ i _ => key.size - (intOf i).toNat)
    case atStart => exact ⟨0, 0, Nat.zero_le _, rfl, rfl, rfl⟩
    case round =>
      obtain ⟨k, j, hkk, rfl, rfl, rfl⟩ := hrel
      have hbd := hAll_bd t seed ⟨h0, h1⟩ (key.data.toList.take k)
      by_cases hlt : k < key.size
      · have HS := Lib.hid (hAll_take t seed key hlt)
        have hc : key[k].toNat < 256 := key[k].toNat_lt
        generalize hAll t seed (key.data.toList.take k) = h at *
        obtain ⟨q, hq⟩ : ∃ q : Nat, (key[k].toNat : Int) / 16 = q := ⟨key[k].toNat / 16, by omega⟩
        obtain ⟨r, hr⟩ : ∃ r : Nat, (key[k].toNat : Int) % 16 = r := ⟨key[k].toNat % 16, by omega⟩
        have hq2 : (key[k].toNat : Int).tdiv 16 = q := by rw [Int.tdiv_eq_ediv_of_nonneg (by omega)]; exact hq
        have hr2 : (key[k].toNat : Int).tmod 16 = r := by rw [Int.tmod_eq_emod_of_nonneg (by omega)]; exact hr
        obtain ⟨b1, o1, z1, e1, g1, z10, z11, hbl, c1⟩ := hR.at_ (k := q) (by omega)
        obtain ⟨b2, o2, z2, e2, g2, z20, z21, _, c2⟩ := hR.at_ (k := r) (by omega)
        injection e1 with e1; injection e1 with e11 e12; subst e11 e12
        injection e2 with e2; injection e2 with e21 e22; subst e21 e22
        have HS2 := Lib.hid (show hStep t h key[k].toNat = IntKind.u64.wrap (IntKind.u64.wrap (rotU (bits .xor .u64 (rotU h 5) z1) 7 + z2) * 11400714819323198485) by
          unfold hStep
          rw [show key[k].toNat / 16 = q by omega, show key[k].toNat % 16 = r by omega, List.getD_eq_getElem?_getD, List.getD_eq_getElem?_getD, g1, g2]
          rfl)
        have hq3 : key[k].toNat / 16 = q := by omega
        have hr3 : key[k].toNat % 16 = r := by omega
        have qw : IntKind.u8.wrap (q : Int) = q := wrap_u8' _ (by omega) (by omega)
        have rw' : IntKind.u8.wrap (r : Int) = r := wrap_u8' _ (by omega) (by omega)
        have q0 : (0 : Int) ≤ (q : Int) := by omega
        have r0 : (0 : Int) ≤ (r : Int) := by omega
        have qi : (q : Int) < 16 := by omega
        have ri : (r : Int) < 16 := by omega
        have hbb := rotU_bd h 5
        have hx := bits_within .xor .u64 (rotU h 5) z1
        have hb7 := rotU_bd (bits .xor .u64 (rotU h 5) z1) 7
        clear g1 g2 hbl
        go_wp2
        go_region_held3 (fun w' => w'.cell? ⟨b, o + q, none⟩ = some (.int .u64 z1)) (first | exact c1 | assumption) (first | (go_at_call 42; refine (rrot5_any h _ hbd.1 hbd.2).mono ?_; rintro e w' ⟨rfl, rfl⟩))
        all_goals
          go_wp2
          go_region_held3 (fun w' => w'.cell? ⟨b, o + r, none⟩ = some (.int .u64 z2)) (first | exact c2 | assumption) (first | (go_at_call 42; refine (rrot7_any (bits .xor .u64 (rotU h 5) z1) _ hx.1 hx.2).mono ?_; rintro e w' ⟨rfl, rfl⟩))
          all_goals
            go_wp2
            go_roundw
            case rel => exact ⟨k + 1, j + 1 + 1, by omega, by go_num, by rw [HS.out, HS2.out], rfl⟩
            case measure => (simp [intOf] <;> omega)
      · have he : key.data.toList.take k = key.data.toList := List.take_of_length_le (by simp; omega)
        rw [he] at hbd ⊢
        generalize hAll t seed key.data.toList = h at *
        go_wp2
        go_ret
        exact ⟨ret_w HP.out.symm, _, rfl⟩
  · have HP := Lib.hid (show hashP t seed key = 0 from if_neg (by omega))
    have HT := Lib.hid (show tabE n = 11 from if_neg h16)
    go_enter Try.func40, Try.ntmps40
    go_wp2_with fail
    refine (rtable_any _ _ _ _ (by omega)).mono ?_
    rintro e w' ⟨rfl, rfl⟩
    rw [HT.out]
    go_wp2
    go_ret
    exact ⟨ret_w HP.out.symm, 0, rfl⟩

/-- hash.Row, P7.3. -/
def rowP (t : List Int) (seed row : Int) (key : ByteArray) : Int := hashP t (IntKind.u64.wrap (seed + IntKind.u64.wrap (IntKind.u64.wrap (IntKind.u64.wrap row + 1) * 15111065706836454659))) key
set_option maxHeartbeats 400000 in
theorem rrow_any (A : Option Addr) (n c : Nat) (t : List Int) (seed row : Int) (key : ByteArray) (w : World) (hR : RdU w A n c t) (h0 : 0 ≤ seed) (h1 : seed ≤ 18446744073709551615) (h2 : -9223372036854775808 ≤ row) (h3 : row ≤ 9223372036854775807) (hk : key.size ≤ 9223372036854775807) :
    Calls Try.prog 34 #[.slice A n c, .int .u64 seed, .int .i64 row, .string key] w fun e w' => e = .returned (.int .u64 (rowP t seed row key)) ∧ ∃ j, w' = w.drewN j := by
  go_enter Try.func34, Try.ntmps34
  go_wp2_with fail
  refine (rhash_any A n c t _ key w hR (u64_bd _).1 (u64_bd _).2 hk).mono ?_
  rintro e w' ⟨rfl, j, rfl⟩
  go_wp2
  go_ret
  exact ⟨rfl, j, rfl⟩
/-- hash.Slot, P7.4. -/
def slotP (h n : Int) : Int := if n < 1 then 0 else h % n
set_option maxHeartbeats 400000 in
theorem rslot_any (h n : Int) (w : World) (h0 : 0 ≤ h) (h1 : h ≤ 18446744073709551615) (h2 : -9223372036854775808 ≤ n) (h3 : n ≤ 9223372036854775807) :
    Calls Try.prog 33 #[.int .u64 h, .int .i64 n] w fun e w' => e = .returned (.int .i64 (slotP h n)) ∧ w = w' := by
  by_cases hn : n < 1
  · have HP := Lib.hid (show slotP h n = 0 from if_pos hn)
    go_enter Try.func33, Try.ntmps33
    go_wp2
    go_ret
    exact ⟨ret_i64 HP.out.symm, rfl⟩
  · have HP := Lib.hid (show slotP h n = h % n from if_neg hn)
    have hz : ¬ n = 0 := by omega
    have hz2 : (n == 0) = false := beq_false_of_ne hz
    have hm0 := Int.emod_nonneg h hz
    have hm1 := Int.emod_lt_of_pos h (show 0 < n by omega)
    have ht : h.tmod n = h % n := Int.tmod_eq_emod_of_nonneg h0
    go_enter Try.func33, Try.ntmps33
    go_wp2
    go_ret
    exact ⟨ret_i64 HP.out.symm, rfl⟩
end Go.Proofs.Ytcckfdhajbbieaa
