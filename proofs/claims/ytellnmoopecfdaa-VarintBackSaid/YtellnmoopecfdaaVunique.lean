/- The walk of the law VarintUnique: it returns true, whatever comes in. Conditions: the arguments read as data within the row's reach. -/
import Derived.Test.YtellnmoopecfdaaVlaws
import Derived.Deep.RegionHeld3
namespace Go.Proofs.Ytellnmoopecfdaa
open Go.ChangeShapes Go.WideShapes Go.ChangeAt Go.RowKit
set_option linter.unusedVariables false

section
variable {w : World} {base : Nat} {A : Option Addr} {n c : Nat} {l : List Int}
theorem Own.len (h : Own w base (.slice A n c) l) : l.length = n := by
  rcases h.1.2 with ⟨h, hn⟩ | ⟨g, cap, cur, h, _⟩
  · injection h with _ h2 _; omega
  · injection h with _ h2 _; omega
theorem Own.reads (h : Own w base (.slice A n c) l) : Rd w A n c l := by
  obtain ⟨A', n', c', e, hr⟩ := h.form
  injection e with e1 e2 e3
  subst e1 e2 e3
  exact hr
theorem Own.head (h : Own w base (.slice A n c) l) (hn : 0 < n) : ∃ g, A = some ⟨g, 0, none⟩ ∧ base ≤ g ∧ g < w.heap.size := by
  have hl := h.len
  rcases h.1.2 with ⟨h', hn'⟩ | ⟨g, cap, cur, h', hb, hg, _⟩
  · omega
  · injection h' with h1 _ _
    refine ⟨g, h1, hb, ?_⟩
    rcases Nat.lt_or_ge g w.heap.size with hlt | hge
    · exact hlt
    · rw [Array.getElem?_eq_none hge] at hg; cases hg
end
section
variable {w : World} {base : Nat} {g n c : Nat} {l : List Int}
theorem Own.free (h : Own w base (.slice (some ⟨g, 0, none⟩) n c) l) (k : Nat) : w.frozen? ⟨g, k, none⟩ = false := by
  obtain rfl := h.len
  exact h.1.frozenAt k
theorem Own.store (h : Own w base (.slice (some ⟨g, 0, none⟩) n c) l) (k : Nat) {z : Int} (hz : 0 ≤ z ∧ z ≤ 255) : Own (w.setCell ⟨g, k, none⟩ (.int .u8 z)) base (.slice (some ⟨g, 0, none⟩) n c) (l.set k z) := by
  obtain rfl := h.len
  refine ⟨?_, fun y hy => ?_⟩
  · rw [List.length_set, List.map_set]
    exact (h.1.stored k _).1
  · rcases List.mem_or_eq_of_mem_set hy with h' | rfl
    · exact h.2 y h'
    · exact hz
end
theorem or128_bd (z : Int) : 0 ≤ bits .or .u8 z 128 ∧ bits .or .u8 z 128 ≤ 255 := bounds_u8 (wf_bits .or .u8 z 128)

theorem rd_zero {l : List Int} (h : rdE l ≠ 0) : rdN l = 0 ∧ rdK l = 0 ∧ 1 ≤ rdE l := by
  unfold rdE at h
  split at h
  · rename_i h1
    exact ⟨if_pos (.inl h1), if_pos (.inl h1), by unfold rdE; rw [if_pos h1]; omega⟩
  · split at h
    · rename_i h0 h1
      exact ⟨if_pos (.inr (.inl h1)), if_pos (.inr (.inl h1)), by unfold rdE; rw [if_neg h0, if_pos h1]; omega⟩
    · split at h
      · rename_i h0 h1 h2
        exact ⟨if_pos (.inr (.inr h2)), if_pos (.inr (.inr h2)), by unfold rdE; rw [if_neg h0, if_neg h1, if_pos h2]; omega⟩
      · exact absurd rfl h

theorem unique_same {wr w5 : World} {A2 A5 : Option Addr} {u c2 n5 c5 : Nat} {L : List Int} {x : Int} (hn : enc x.toNat = L.take u) (hR : Rd wr A2 u c2 (L.take u))
    (h5 : Rd w5 A5 n5 c5 ([] ++ enc x.toNat)) (hb : Below wr.heap.size wr w5) : n5 = u ∧ Rd w5 A5 n5 c5 (L.take u) ∧ Rd w5 A2 n5 c2 (L.take u) := by
  rw [List.nil_append, hn] at h5
  have e : n5 = u := h5.len.symm.trans hR.len
  subst e
  exact ⟨rfl, h5, hR.below hb⟩

set_option maxHeartbeats 1000000 in
theorem varintUnique_walk (A : Option Addr) (k c : Nat) (s : Int) (w : World) (h : Arg w A k c) (hs : 0 ≤ s ∧ s ≤ 255) :
    Calls Try.prog 6 #[.slice A k c, .int .u8 s] w (Yes w) := by
  obtain ⟨hcap, hmx, l, h⟩ := h
  obtain ⟨hs0, hs1⟩ := hs
  obtain ⟨m, hm⟩ : ∃ m, m = min k 12 := ⟨_, rfl⟩
  have hmk : m ≤ k := by omega
  have hm12 : m ≤ 12 := by omega
  have ht := h.take hmk
  by_cases h12 : k ≤ 12
  · obtain rfl : m = k := by omega
    clear hm hmk
    go_enter Try.func6, Try.ntmps6
    go_wp2_with (at_builtin; refine wpList_app rfl (.tmp 10) (.tmp 15) rfl w.heap.size _ [] rfl A m c _ rfl (Own.empty w) (ht.alloc _) ?_ ?_ ?_)
    · simp; omega
    · simp
    · intro v2 w2 hO2 hg2 _
      have hb2 := Below.app ((Below.refl _ _).alloc (Nat.le_refl _) _) (Own.empty w) hg2 (by simp) (Nat.le_refl _)
      obtain ⟨A2, n2, c2, rfl, hr2⟩ := hO2.form
      have hc2 := hr2.cap
      have hx2 := hr2.max
      clear hr2 hg2
      go_wp2
      go_loopw [6] (fun i wr => ∃ (j : Nat) (L : List Int), j ≤ n2 ∧ i = .int .i64 j ∧ Own wr w.heap.size (.slice A2 n2 c2) L ∧ Below w.heap.size w wr) (fun i _ => n2 - (intOf i).toNat)
      case atStart => exact ⟨0, _, Nat.zero_le _, rfl, hO2, hb2⟩
      case round =>
        obtain ⟨j, L, hj, rfl, hO, hb⟩ := hrel
        by_cases hlt : j < n2
        · by_cases hh : (j : Int) < s % 12
          · obtain ⟨g, rfl, hg, hgl⟩ := hO.head (by omega)
            obtain ⟨b, o, z, hA, hz, h0, h1, hbl, hc⟩ := hO.reads.at_ hlt
            simp only [Option.some.injEq, Addr.mk.injEq, and_true] at hA
            obtain ⟨rfl, rfl⟩ := hA
            have hf := hO.free j
            rw [Nat.zero_add] at hc
            go_wp2
            go_roundw
            case rel => exact ⟨j + 1, _, by omega, by go_num, hO.store j (or128_bd z), hb.setCell hg _⟩
            case measure => (simp [intOf] <;> omega)
          · have hh' : s % 12 ≤ (j : Int) := by omega
            clear hh
            have hR := hO.reads
            have hcap2 := hR.cap
            by_cases hE : rdE L = 0
            · obtain ⟨u, hu, hu1, hul, hu10, hn0, hn1, henc⟩ := rd_unique L hR.bytes hE
              have HE := Lib.hid hE
              have HU := Lib.hid hu
              have HN := Lib.hid henc
              have hlen := hR.len
              have hun : u ≤ n2 := by omega
              have hbx : 0 ≤ rdN L ∧ rdN L ≤ 18446744073709551615 := ⟨hn0, hn1⟩
              have hRt := hR.take hun
              clear hE hu henc hlen
              have hd1 : decide ((1 : Int) ≤ (u : Int)) = true := decide_eq_true (by omega)
              have hi0 : (0 : Int) ≤ (u : Int) := Int.natCast_nonneg _
              have hi1 : (u : Int) ≤ (n2 : Int) := by omega
              have hi2 : (u : Int) ≤ (c2 : Int) := by omega
              have hi3 : u ≤ c2 := by omega
              have hd2 : decide (u ≤ n2) = true := decide_eq_true (by omega)
              go_wp2_with fail
              refine (read_any _ _ _ _ _ hR).mono ?_
              rintro e w' ⟨rfl, rfl⟩
              rw [HE.out, HU.out]
              go_wp2_with fail
              go_region_held3 (fun w' => Rd w' A2 u c2 (L.take u)) (first | exact hRt | exact hq2 | exact (hq2.drewN j6).below hb7) (first | (go_at_call 9; refine (append_any _ _ _ [] _ _ (Rd.nil _ _ _ (by simp [maxLen])) hbx (by omega)).mono ?_; rintro e w5 ⟨A5, n5, c5, rfl, hr5, hb5⟩; obtain ⟨rfl, hq1, hq2⟩ := unique_same HN.out hRt.drew hr5 hb5) | (go_at_call 8; refine (same_yes _ _ _ _ _ _ _ hq1 hq2).mono ?_; rintro e w6 ⟨rfl, j6, rfl⟩) | (go_at_call 7; refine (awake_any _).mono ?_; rintro e w7 ⟨rfl, hb7⟩))
              have hB5 := hb.drew.trans (hb5.mono hb.size)
              have hB7 := (below_drewN hB5 j6).trans (hb7.mono hB5.size)
              clear hr5 hb5 hb7 hq1 hq2 hB5
              go_wp2
              go_ret
              exact ⟨rfl, hB7⟩
            · obtain ⟨e1, e2, e3⟩ := rd_zero hE
              have E1 := Lib.hid e1
              have E2 := Lib.hid e2
              clear e1 e2 hE
              go_wp2_with fail
              refine (read_any _ _ _ _ _ hR).mono ?_
              rintro e w' ⟨rfl, rfl⟩
              rw [E1.out, E2.out]
              generalize rdE L = er at *
              go_wp2_with fail
              refine (awake_any _).mono ?_
              rintro e w4 ⟨rfl, hb4⟩
              have hB4 := hb.trans (hb4.mono hb.size)
              go_wp2
              go_ret
              exact ⟨rfl, hB4⟩
        · have hlt' : n2 ≤ j := by omega
          clear hlt
          have hR := hO.reads
          have hcap2 := hR.cap
          by_cases hE : rdE L = 0
          · obtain ⟨u, hu, hu1, hul, hu10, hn0, hn1, henc⟩ := rd_unique L hR.bytes hE
            have HE := Lib.hid hE
            have HU := Lib.hid hu
            have HN := Lib.hid henc
            have hlen := hR.len
            have hun : u ≤ n2 := by omega
            have hbx : 0 ≤ rdN L ∧ rdN L ≤ 18446744073709551615 := ⟨hn0, hn1⟩
            have hRt := hR.take hun
            clear hE hu henc hlen
            have hd1 : decide ((1 : Int) ≤ (u : Int)) = true := decide_eq_true (by omega)
            have hi0 : (0 : Int) ≤ (u : Int) := Int.natCast_nonneg _
            have hi1 : (u : Int) ≤ (n2 : Int) := by omega
            have hi2 : (u : Int) ≤ (c2 : Int) := by omega
            have hi3 : u ≤ c2 := by omega
            have hd2 : decide (u ≤ n2) = true := decide_eq_true (by omega)
            go_wp2_with fail
            refine (read_any _ _ _ _ _ hR).mono ?_
            rintro e w' ⟨rfl, rfl⟩
            rw [HE.out, HU.out]
            go_wp2_with fail
            go_region_held3 (fun w' => Rd w' A2 u c2 (L.take u)) (first | exact hRt | exact hq2 | exact (hq2.drewN j6).below hb7) (first | (go_at_call 9; refine (append_any _ _ _ [] _ _ (Rd.nil _ _ _ (by simp [maxLen])) hbx (by omega)).mono ?_; rintro e w5 ⟨A5, n5, c5, rfl, hr5, hb5⟩; obtain ⟨rfl, hq1, hq2⟩ := unique_same HN.out hRt.drew hr5 hb5) | (go_at_call 8; refine (same_yes _ _ _ _ _ _ _ hq1 hq2).mono ?_; rintro e w6 ⟨rfl, j6, rfl⟩) | (go_at_call 7; refine (awake_any _).mono ?_; rintro e w7 ⟨rfl, hb7⟩))
            have hB5 := hb.drew.trans (hb5.mono hb.size)
            have hB7 := (below_drewN hB5 j6).trans (hb7.mono hB5.size)
            clear hr5 hb5 hb7 hq1 hq2 hB5
            go_wp2
            go_ret
            exact ⟨rfl, hB7⟩
          · obtain ⟨e1, e2, e3⟩ := rd_zero hE
            have E1 := Lib.hid e1
            have E2 := Lib.hid e2
            clear e1 e2 hE
            go_wp2_with fail
            refine (read_any _ _ _ _ _ hR).mono ?_
            rintro e w' ⟨rfl, rfl⟩
            rw [E1.out, E2.out]
            generalize rdE L = er at *
            go_wp2_with fail
            refine (awake_any _).mono ?_
            rintro e w4 ⟨rfl, hb4⟩
            have hB4 := hb.trans (hb4.mono hb.size)
            go_wp2
            go_ret
            exact ⟨rfl, hB4⟩
  · obtain rfl : m = 12 := by omega
    have h12' : 12 < k := by omega
    have hmm : max (12 : Int) 0 = 12 := rfl
    clear hm h12
    go_enter Try.func6, Try.ntmps6
    go_wp2_with (at_builtin; refine wpList_app rfl (.tmp 10) (.tmp 15) rfl w.heap.size _ [] rfl A 12 c _ rfl (Own.empty w) (ht.alloc _) ?_ ?_ ?_)
    · simp
    · simp
    · intro v2 w2 hO2 hg2 _
      have hb2 := Below.app ((Below.refl _ _).alloc (Nat.le_refl _) _) (Own.empty w) hg2 (by simp) (Nat.le_refl _)
      obtain ⟨A2, n2, c2, rfl, hr2⟩ := hO2.form
      have hc2 := hr2.cap
      have hx2 := hr2.max
      clear hr2 hg2
      go_wp2
      go_loopw [6] (fun i wr => ∃ (j : Nat) (L : List Int), j ≤ n2 ∧ i = .int .i64 j ∧ Own wr w.heap.size (.slice A2 n2 c2) L ∧ Below w.heap.size w wr) (fun i _ => n2 - (intOf i).toNat)
      case atStart => exact ⟨0, _, Nat.zero_le _, rfl, hO2, hb2⟩
      case round =>
        obtain ⟨j, L, hj, rfl, hO, hb⟩ := hrel
        by_cases hlt : j < n2
        · by_cases hh : (j : Int) < s % 12
          · obtain ⟨g, rfl, hg, hgl⟩ := hO.head (by omega)
            obtain ⟨b, o, z, hA, hz, h0, h1, hbl, hc⟩ := hO.reads.at_ hlt
            simp only [Option.some.injEq, Addr.mk.injEq, and_true] at hA
            obtain ⟨rfl, rfl⟩ := hA
            have hf := hO.free j
            rw [Nat.zero_add] at hc
            go_wp2
            go_roundw
            case rel => exact ⟨j + 1, _, by omega, by go_num, hO.store j (or128_bd z), hb.setCell hg _⟩
            case measure => (simp [intOf] <;> omega)
          · have hh' : s % 12 ≤ (j : Int) := by omega
            clear hh
            have hR := hO.reads
            have hcap2 := hR.cap
            by_cases hE : rdE L = 0
            · obtain ⟨u, hu, hu1, hul, hu10, hn0, hn1, henc⟩ := rd_unique L hR.bytes hE
              have HE := Lib.hid hE
              have HU := Lib.hid hu
              have HN := Lib.hid henc
              have hlen := hR.len
              have hun : u ≤ n2 := by omega
              have hbx : 0 ≤ rdN L ∧ rdN L ≤ 18446744073709551615 := ⟨hn0, hn1⟩
              have hRt := hR.take hun
              clear hE hu henc hlen
              have hd1 : decide ((1 : Int) ≤ (u : Int)) = true := decide_eq_true (by omega)
              have hi0 : (0 : Int) ≤ (u : Int) := Int.natCast_nonneg _
              have hi1 : (u : Int) ≤ (n2 : Int) := by omega
              have hi2 : (u : Int) ≤ (c2 : Int) := by omega
              have hi3 : u ≤ c2 := by omega
              have hd2 : decide (u ≤ n2) = true := decide_eq_true (by omega)
              go_wp2_with fail
              refine (read_any _ _ _ _ _ hR).mono ?_
              rintro e w' ⟨rfl, rfl⟩
              rw [HE.out, HU.out]
              go_wp2_with fail
              go_region_held3 (fun w' => Rd w' A2 u c2 (L.take u)) (first | exact hRt | exact hq2 | exact (hq2.drewN j6).below hb7) (first | (go_at_call 9; refine (append_any _ _ _ [] _ _ (Rd.nil _ _ _ (by simp [maxLen])) hbx (by omega)).mono ?_; rintro e w5 ⟨A5, n5, c5, rfl, hr5, hb5⟩; obtain ⟨rfl, hq1, hq2⟩ := unique_same HN.out hRt.drew hr5 hb5) | (go_at_call 8; refine (same_yes _ _ _ _ _ _ _ hq1 hq2).mono ?_; rintro e w6 ⟨rfl, j6, rfl⟩) | (go_at_call 7; refine (awake_any _).mono ?_; rintro e w7 ⟨rfl, hb7⟩))
              have hB5 := hb.drew.trans (hb5.mono hb.size)
              have hB7 := (below_drewN hB5 j6).trans (hb7.mono hB5.size)
              clear hr5 hb5 hb7 hq1 hq2 hB5
              go_wp2
              go_ret
              exact ⟨rfl, hB7⟩
            · obtain ⟨e1, e2, e3⟩ := rd_zero hE
              have E1 := Lib.hid e1
              have E2 := Lib.hid e2
              clear e1 e2 hE
              go_wp2_with fail
              refine (read_any _ _ _ _ _ hR).mono ?_
              rintro e w' ⟨rfl, rfl⟩
              rw [E1.out, E2.out]
              generalize rdE L = er at *
              go_wp2_with fail
              refine (awake_any _).mono ?_
              rintro e w4 ⟨rfl, hb4⟩
              have hB4 := hb.trans (hb4.mono hb.size)
              go_wp2
              go_ret
              exact ⟨rfl, hB4⟩
        · have hlt' : n2 ≤ j := by omega
          clear hlt
          have hR := hO.reads
          have hcap2 := hR.cap
          by_cases hE : rdE L = 0
          · obtain ⟨u, hu, hu1, hul, hu10, hn0, hn1, henc⟩ := rd_unique L hR.bytes hE
            have HE := Lib.hid hE
            have HU := Lib.hid hu
            have HN := Lib.hid henc
            have hlen := hR.len
            have hun : u ≤ n2 := by omega
            have hbx : 0 ≤ rdN L ∧ rdN L ≤ 18446744073709551615 := ⟨hn0, hn1⟩
            have hRt := hR.take hun
            clear hE hu henc hlen
            have hd1 : decide ((1 : Int) ≤ (u : Int)) = true := decide_eq_true (by omega)
            have hi0 : (0 : Int) ≤ (u : Int) := Int.natCast_nonneg _
            have hi1 : (u : Int) ≤ (n2 : Int) := by omega
            have hi2 : (u : Int) ≤ (c2 : Int) := by omega
            have hi3 : u ≤ c2 := by omega
            have hd2 : decide (u ≤ n2) = true := decide_eq_true (by omega)
            go_wp2_with fail
            refine (read_any _ _ _ _ _ hR).mono ?_
            rintro e w' ⟨rfl, rfl⟩
            rw [HE.out, HU.out]
            go_wp2_with fail
            go_region_held3 (fun w' => Rd w' A2 u c2 (L.take u)) (first | exact hRt | exact hq2 | exact (hq2.drewN j6).below hb7) (first | (go_at_call 9; refine (append_any _ _ _ [] _ _ (Rd.nil _ _ _ (by simp [maxLen])) hbx (by omega)).mono ?_; rintro e w5 ⟨A5, n5, c5, rfl, hr5, hb5⟩; obtain ⟨rfl, hq1, hq2⟩ := unique_same HN.out hRt.drew hr5 hb5) | (go_at_call 8; refine (same_yes _ _ _ _ _ _ _ hq1 hq2).mono ?_; rintro e w6 ⟨rfl, j6, rfl⟩) | (go_at_call 7; refine (awake_any _).mono ?_; rintro e w7 ⟨rfl, hb7⟩))
            have hB5 := hb.drew.trans (hb5.mono hb.size)
            have hB7 := (below_drewN hB5 j6).trans (hb7.mono hB5.size)
            clear hr5 hb5 hb7 hq1 hq2 hB5
            go_wp2
            go_ret
            exact ⟨rfl, hB7⟩
          · obtain ⟨e1, e2, e3⟩ := rd_zero hE
            have E1 := Lib.hid e1
            have E2 := Lib.hid e2
            clear e1 e2 hE
            go_wp2_with fail
            refine (read_any _ _ _ _ _ hR).mono ?_
            rintro e w' ⟨rfl, rfl⟩
            rw [E1.out, E2.out]
            generalize rdE L = er at *
            go_wp2_with fail
            refine (awake_any _).mono ?_
            rintro e w4 ⟨rfl, hb4⟩
            have hB4 := hb.trans (hb4.mono hb.size)
            go_wp2
            go_ret
            exact ⟨rfl, hB4⟩
end Go.Proofs.Ytellnmoopecfdaa
