/- heavykeyslaw03.TagsValid returns true, whatever the input. Conditions: none beyond those typed. -/
import Derived.Test.YtnalgjchdenbpaaTlaws
namespace Go.Proofs.Ytnalgjchdenbpaa
open Go.ChangeShapes Go.WideShapes Go.ChangeAt Go.RowKit
set_option linter.unusedVariables false
set_option linter.unusedSimpArgs false

theorem ba_add_size (a b : ByteArray) (n m : Nat) (ha : a.size ≤ n) (hb : b.size ≤ m) : (a ++ b).size ≤ n + m := by rw [ByteArray.size_append]; omega
theorem ext_le (s : ByteArray) (a b n : Nat) (hs : s.size ≤ n) : (s.extract a b).size ≤ n := by rw [ByteArray.size_extract]; omega

def lit36 : ByteArray := ⟨#[97, 98, 99, 100, 101, 102, 103, 104, 105, 106, 107, 108, 109, 110, 111, 112, 113, 114, 115, 116, 117, 118, 119, 120, 121, 122, 48, 49, 50, 51, 52, 53, 54, 55, 56, 57]⟩

set_option maxRecDepth 100000 in
set_option maxHeartbeats 1000000 in
theorem tagsValid_walk (name value : ByteArray) (n : Int) (w : World) (hn : name.size ≤ 9223372036854775807) (hv : value.size ≤ 9223372036854775807) (h1 : 0 ≤ n) (h2 : n ≤ 255) :
    Calls Try.prog 3 #[.string name, .string value, .int .u8 n] w (Yes w) := by
  go_enter Try.func3, Try.ntmps3
  go_wp2_with fail
  refine (short_any _ _ hn).mono ?_
  rintro e w1 ⟨p, hp, rfl, rfl⟩
  go_wp2_with fail
  refine (short_any _ _ hv).mono ?_
  rintro e w1 ⟨q, hq, rfl, rfl⟩
  clear hn hv
  have hm1 : 0 ≤ n % 37 := by omega
  have hm2 : n % 37 ≤ 36 := by omega
  obtain ⟨l4, hl4⟩ : ∃ l4 : List Tg, l4 = [(p, q), (lit36.extract 0 (n % 37).toNat, q), (⟨#[97]⟩, q ++ q), (lit36.extract 0 (n % 37).toNat ++ p, ⟨#[]⟩)] := ⟨_, rfl⟩
  have hz4 : ∀ t ∈ l4, t.1.size ≤ 140737488355328 ∧ t.2.size ≤ 140737488355328 := by
    have a1 := ext_le lit36 0 (n % 37).toNat 36 (Nat.le_refl _)
    have a2 := ba_add_size q q 80 80 hq hq
    have a3 := ba_add_size (lit36.extract 0 (n % 37).toNat) p 36 80 a1 hp
    have a4 : (⟨#[97]⟩ : ByteArray).size = 1 := rfl
    have a5 : (⟨#[]⟩ : ByteArray).size = 0 := rfl
    intro t ht
    rw [hl4] at ht
    simp only [List.mem_cons, List.not_mem_nil, or_false] at ht
    rcases ht with rfl | rfl | rfl | rfl
    · exact ⟨by show p.size ≤ _; omega, by show q.size ≤ _; omega⟩
    · exact ⟨by show (lit36.extract 0 (n % 37).toNat).size ≤ _; omega, by show q.size ≤ _; omega⟩
    · exact ⟨by show (⟨#[97]⟩ : ByteArray).size ≤ _; omega, by show (q ++ q).size ≤ _; omega⟩
    · exact ⟨by show (lit36.extract 0 (n % 37).toNat ++ p).size ≤ _; omega, by show (⟨#[]⟩ : ByteArray).size ≤ _; omega⟩
  have H4 : Hid (RdT (w.alloc (.cells (cellsT [(p, q), (lit36.extract 0 (n % 37).toNat, q), (⟨#[97]⟩, q ++ q), (lit36.extract 0 (n % 37).toNat ++ p, ⟨#[]⟩)]).toArray 24)) (some ⟨w.heap.size, 0, none⟩) 4 4 l4) := Lib.hid (by
    have := RdT.lit w l4 (by rw [hl4]; simp) hz4
    rw [hl4] at this ⊢
    exact this)
  clear hz4 hl4
  go_wp2
  go_loopw [34] (fun i W => ∃ k : Nat, k ≤ 4 ∧ RdT W (some ⟨w.heap.size, 0, none⟩) 4 4 l4 ∧ Below w.heap.size w W ∧ i = .int .i64 k) (fun i _ => 4 - (intOf i).toNat)
  case atStart => exact ⟨0, by omega, H4.out, (Below.refl _ _).alloc (Nat.le_refl _) _, rfl⟩
  case round =>
    clear H4
    obtain ⟨k, hk, hR, hb, rfl⟩ := hrel
    have hz := hb.size
    by_cases hlt : k < 4
    · obtain ⟨b, o, u, v, he, hg, hu, hv, hbl, c1, c2⟩ := hR.at_ hlt
      injection he with he; injection he with e1 e2; subst e1; subst e2
      clear hg
      rw [Nat.zero_add] at c1 c2
      have B0 := Box.new wr u v
      have k0 := B0.c0
      have k1 := B0.c1
      have hB0 : Below wr.heap.size wr (wr.alloc (.cells #[.string u, .string v] 24)).drew := ((Below.refl _ _).alloc (Nat.le_refl _) _).drew
      clear B0
      go_wp2_with fail
      go_region_held3 (fun w' => w'.cell? ⟨wr.heap.size, 0, none⟩ = some (.string u) ∧ w'.cell? ⟨wr.heap.size, 1, none⟩ = some (.string v)) (first | assumption | exact ⟨k0, k1⟩) (first | (go_at_call 10; refine (valid_any _ _ _ hu hv).mono ?_; rintro e w5 ⟨rfl, hb5⟩; have hN5 := box_next (by assumption) hb5; have hB5 := below_then (by assumption) hb5) | (go_at_call 11; refine (rtag_any _ _ _ hu hv).mono ?_; rintro e w6 ⟨rfl, hb6⟩; have hN6 := box_next (by assumption) hb6; have hB6 := below_then (by assumption) hb6))
      have hRn := hR.below hB6
      have hBn := below_then hb hB6
      clear hb5 hN5 hB5 hb6 hN6 hB6 hB0 k0 k1 c1 c2 hR hb
      go_wp2
      go_roundw
      case rel => exact ⟨k + 1, by omega, hRn, hBn, by go_num⟩
      case measure => simp [intOf]; omega
    · go_wp2_with fail
      refine (awake_any _).mono ?_
      rintro e w2 ⟨rfl, hb2⟩
      go_wp2
      go_ret
      exact ⟨rfl, below_then hb hb2⟩
end Go.Proofs.Ytnalgjchdenbpaa
