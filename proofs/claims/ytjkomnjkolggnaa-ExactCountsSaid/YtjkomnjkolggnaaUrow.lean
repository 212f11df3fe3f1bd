/- Words for slices of uint64, and the specified hash as a plain function. Conditions: none beyond those typed. -/
import Derived.Test.YtjkomnjkolggnaaBase
import Derived.Test.YtjkomnjkolggnaaBm
import Derived.Laws.Closers25b
import Derived.Deep.RegionHeld3
namespace Go.Proofs.Ytjkomnjkolggnaa
open Go.ChangeShapes Go.WideShapes Go.ChangeAt Go.RowKit
set_option linter.unusedVariables false
set_option linter.unusedSimpArgs false
set_option maxRecDepth 100000

/-- The slice value '.slice A n c' reads as these numbers of 64 bits. -/
def RdU (w : World) (A : Option Addr) (n c : Nat) (l : List Int) : Prop :=
  l.length = n ∧ n ≤ c ∧ c ≤ maxLen ∧ (∀ z ∈ l, 0 ≤ z ∧ z ≤ 18446744073709551615) ∧
    ∀ j z, l[j]? = some z → ∃ b o, A = some ⟨b, o, none⟩ ∧ w.cell? ⟨b, o + j, none⟩ = some (.int .u64 z)
section
variable {w w' : World} {A : Option Addr} {n c : Nat} {l : List Int}
theorem RdU.len (h : RdU w A n c l) : l.length = n := h.1
theorem RdU.cap (h : RdU w A n c l) : n ≤ c := h.2.1
theorem RdU.max (h : RdU w A n c l) : c ≤ 9223372036854775807 := h.2.2.1
theorem RdU.at_ (h : RdU w A n c l) {k : Nat} (hk : k < n) :
    ∃ b o z, A = some ⟨b, o, none⟩ ∧ l[k]? = some z ∧ 0 ≤ z ∧ z ≤ 18446744073709551615 ∧ b < w.heap.size ∧ w.cell? ⟨b, o + k, none⟩ = some (.int .u64 z) := by
  have hl : k < l.length := by rw [h.1]; exact hk
  have hg : l[k]? = some l[k] := List.getElem?_eq_getElem hl
  obtain ⟨b, o, hA, hc⟩ := h.2.2.2.2 k _ hg
  have hb := h.2.2.2.1 _ (List.getElem_mem hl)
  exact ⟨b, o, l[k], hA, hg, hb.1, hb.2, World.block_lt_of_cell? w ⟨b, o + k, none⟩ hc, hc⟩
theorem RdU.below (h : RdU w A n c l) (hb : Below w.heap.size w w') : RdU w' A n c l :=
  ⟨h.1, h.2.1, h.2.2.1, h.2.2.2.1, fun j z hz => by
    obtain ⟨b, o, hA, hc⟩ := h.2.2.2.2 j z hz
    exact ⟨b, o, hA, (hb.cell (World.block_lt_of_cell? w _ hc)).trans hc⟩⟩
theorem RdU.drewN (h : RdU w A n c l) (k : Nat) : RdU (w.drewN k) A n c l := h
theorem RdU.take (h : RdU w A n c l) {k : Nat} (hk : k ≤ n) : RdU w A k c (l.take k) := by
  refine ⟨by rw [List.length_take, h.1]; omega, Nat.le_trans hk h.2.1, h.2.2.1, fun z hz => h.2.2.2.1 z (List.mem_of_mem_take hz), fun j z hz => ?_⟩
  rw [List.getElem?_take] at hz
  split at hz
  · exact h.2.2.2.2 j z hz
  · cases hz
end
/-- rot: P7.2, as the model reckons. -/
def rotU (h : Int) (k : Nat) : Int := bits .or .u64 (IntKind.u64.wrap (h * 2 ^ k)) (h / 2 ^ (64 - k))
theorem rotU_bd (h : Int) (k : Nat) : 0 ≤ rotU h k ∧ rotU h k ≤ 18446744073709551615 := ⟨bits_lo_u64 _ _ _, bits_hi_u64 _ _ _⟩
theorem ret_w {a b : Int} (h : a = b) : Ending.returned (.int .u64 a) = .returned (.int .u64 b) := by rw [h]
def tabE (n : Nat) : Int := if n = 16 then 0 else 11
theorem wrap_u8' (x : Int) (h0 : 0 ≤ x) (h1 : x ≤ 255) : IntKind.u8.wrap x = x := by
  simp [IntKind.wrap, IntKind.bits, IntKind.signed]
  omega
/-- One byte of a key. -/
def hStep (t : List Int) (h : Int) (b : Nat) : Int := IntKind.u64.wrap (IntKind.u64.wrap (rotU (bits .xor .u64 (rotU h 5) (t.getD (b / 16) 0)) 7 + t.getD (b % 16) 0) * 11400714819323198485)
def hAll (t : List Int) (h : Int) (key : List UInt8) : Int := key.foldl (fun h b => hStep t h b.toNat) h
def hFin (h : Int) : Int := bits .xor .u64 h (h / 4294967296)
/-- hash.Key, P7.2. -/
def hashP (t : List Int) (seed : Int) (key : ByteArray) : Int := if t.length = 16 then hFin (hAll t seed key.data.toList) else 0
theorem hAll_take (t : List Int) (h : Int) (key : ByteArray) {k : Nat} (hk : k < key.size) : hAll t h (key.data.toList.take (k + 1)) = hStep t (hAll t h (key.data.toList.take k)) key[k].toNat := by
  have e : key.data.toList[k]? = some key[k] := by
    rw [List.getElem?_eq_getElem (by simpa using hk)]; rfl
  rw [List.take_add_one, e]
  simp [hAll]
theorem u64_bd (x : Int) : 0 ≤ IntKind.u64.wrap x ∧ IntKind.u64.wrap x ≤ 18446744073709551615 := wrap_within .u64 x
theorem hAll_bd (t : List Int) (h : Int) (hh : 0 ≤ h ∧ h ≤ 18446744073709551615) : ∀ key : List UInt8, 0 ≤ hAll t h key ∧ hAll t h key ≤ 18446744073709551615 := by
  intro key
  unfold hAll
  induction key generalizing h with
  | nil => exact hh
  | cons b r ih => exact ih _ (u64_bd _)
/-- hash.Row, P7.3. -/
def rowP (t : List Int) (seed row : Int) (key : ByteArray) : Int := hashP t (IntKind.u64.wrap (seed + IntKind.u64.wrap (IntKind.u64.wrap (IntKind.u64.wrap row + 1) * 15111065706836454659))) key
/-- hash.Slot, P7.4. -/
def slotP (h n : Int) : Int := if n < 1 then 0 else h % n
end Go.Proofs.Ytjkomnjkolggnaa
