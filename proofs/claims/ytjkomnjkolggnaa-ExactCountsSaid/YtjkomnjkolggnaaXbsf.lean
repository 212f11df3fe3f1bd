/- The program's exact counters: a search by halves for an entry's key (cmp.Compare of texts, the two closures, slices.BinarySearchFunc). Conditions: none beyond those typed. -/
import Derived.Test.YtjkomnjkolggnaaSvsrt
import Derived.Test.YtjkomnjkolggnaaSvref
import Derived.Test.YtjkomnjkolggnaaKgrow
import Derived.Laws.Cover1
namespace Go.Proofs.Ytjkomnjkolggnaa
open Go.ChangeShapes Go.WideShapes Go.ChangeAt Go.RowKit
set_option linter.unusedVariables false
set_option linter.unusedSimpArgs false
set_option maxRecDepth 100000

theorem isNaNs_any (x : ByteArray) (w : World) : Calls Try.prog 50 #[.string x] w fun e w' => e = .returned (.bool false) ∧ w' = w := by
  have h : (x.toList != x.toList) = false := by simp
  have h2 : (x.toList == x.toList) = true := by simp
  go_enter Try.func50, Try.ntmps50
  go_wp2
  go_ret
  exact ⟨rfl, rfl⟩
/-- What cmp.Compare tells of two texts. -/
def cmpS (x y : ByteArray) : Int := if sless x y = true then -1 else if sless y x = true then 1 else 0
set_option maxHeartbeats 1000000 in
theorem cmpS_any (x y : ByteArray) (w : World) : Calls Try.prog 48 #[.string x, .string y] w fun e w' => e = .returned (.int .i64 (cmpS x y)) ∧ w' = w := by
  cases h1 : sless x y with
  | true =>
    have HE := Lib.hid (show cmpS x y = -1 from if_pos h1)
    have h1' : Op.bytesLess x.toList y.toList = true := h1
    go_enter Try.func48, Try.ntmps48
    go_wp2_with (go_at_call 50; refine (isNaNs_any _ _).mono ?_; rintro e w' ⟨rfl, rfl⟩)
    go_ret
    rw [HE.out]
    exact ⟨rfl, rfl⟩
  | false =>
    have h1' : Op.bytesLess x.toList y.toList = false := h1
    cases h2 : sless y x with
    | true =>
      have h2' : Op.bytesLess y.toList x.toList = true := h2
      have h3' : (x.toList == y.toList) = false := by rw [str_eq_en]; exact decide_eq_false fun e => by rw [e, sless_irrefl] at h2; cases h2
      have HE := Lib.hid (show cmpS x y = 1 by unfold cmpS; rw [h1, h2]; rfl)
      go_enter Try.func48, Try.ntmps48
      go_wp2_with (go_at_call 50; refine (isNaNs_any _ _).mono ?_; rintro e w' ⟨rfl, rfl⟩)
      go_ret
      rw [HE.out]
      exact ⟨rfl, rfl⟩
    | false =>
      have h2' : Op.bytesLess y.toList x.toList = false := h2
      have h3' : (x.toList == y.toList) = true := by
        rw [str_eq_en]
        rcases sless_total x y with e | e | e
        · exact decide_eq_true e
        · rw [h1] at e; cases e
        · rw [h2] at e; cases e
      have HE := Lib.hid (show cmpS x y = 0 by unfold cmpS; rw [h1, h2]; rfl)
      go_enter Try.func48, Try.ntmps48
      go_wp2_with (go_at_call 50; refine (isNaNs_any _ _).mono ?_; rintro e w' ⟨rfl, rfl⟩)
      go_ret
      rw [HE.out]
      exact ⟨rfl, rfl⟩
theorem cmpS_lt {x y : ByteArray} (h : sless x y = true) : cmpS x y = -1 := if_pos h
theorem cmpS_gt {x y : ByteArray} (h : sless y x = true) : cmpS x y = 1 := by unfold cmpS; rw [sless_asymm h, h]; rfl
theorem cmpS_eq (x : ByteArray) : cmpS x x = 0 := by unfold cmpS; rw [sless_irrefl]; rfl
theorem keyOf_any (e : En) (w : World) : Calls Try.prog 42 #[.agg (VE e)] w fun r w' => r = .returned (.string e.1) ∧ Below w.heap.size w w' := by
  have b1 : Below w.heap.size w (w.alloc (.cells (VE e) 32)) := (Below.refl _ _).alloc (Nat.le_refl _) _
  have v0 : (w.alloc (.cells (VE e) 32)).cell? ⟨w.heap.size, 0, none⟩ = some (.string e.1) := (World.cell?_alloc_at (w := w) _ _ _ _ rfl).trans rfl
  have HB := Lib.hid b1
  clear b1
  go_enter Try.func42, Try.ntmps42
  go_wp2
  go_ret
  exact ⟨rfl, HB.out⟩
/-- What stands in the box of the captured function. -/
abbrev KeyBox (w : World) (b : Nat) : Prop := w.cell? ⟨b, 0, none⟩ = some (.func (.func 42) #[] #[])
theorem KeyBox.below {w w' : World} {b : Nat} (h : KeyBox w b) (hb : Below w.heap.size w w') : KeyBox w' b := (hb.cell (p := ⟨b, 0, none⟩) (World.block_lt_of_cell? w _ h)).trans h
set_option maxHeartbeats 1000000 in
theorem cmpK_any (e : En) (s : ByteArray) {b : Nat} {w : World} (h : KeyBox w b) :
    Calls Try.prog 47 #[.agg (VE e), .string s, .pointer (some ⟨b, 0, none⟩)] w fun r w' => r = .returned (.int .i64 (cmpS e.1 s)) ∧ Below w.heap.size w w' := by
  have b1 : Below w.heap.size w (w.alloc (.cells (VE e) 32)) := (Below.refl _ _).alloc (Nat.le_refl _) _
  have h1 : KeyBox (w.alloc (.cells (VE e) 32)) b := h.below b1
  have v0 : (w.alloc (.cells (VE e) 32)).cell? ⟨w.heap.size, 0, none⟩ = some (.string e.1) := (World.cell?_alloc_at (w := w) _ _ _ _ rfl).trans rfl
  have v1 : (w.alloc (.cells (VE e) 32)).cell? ⟨w.heap.size, 1, none⟩ = some (.int .u64 e.2.1) := (World.cell?_alloc_at (w := w) _ _ _ _ rfl).trans rfl
  have v2 : (w.alloc (.cells (VE e) 32)).cell? ⟨w.heap.size, 2, none⟩ = some (.int .u64 e.2.2) := (World.cell?_alloc_at (w := w) _ _ _ _ rfl).trans rfl
  have HB := Lib.hid b1
  unfold KeyBox at h1
  clear b1 h
  go_enter Try.func47, Try.ntmps47
  go_wp2_with (first | (go_at_call 42; refine (keyOf_any e _).mono ?_; rintro r w2 ⟨rfl, b2⟩) | (go_at_call 48; refine (cmpS_any _ _ _).mono ?_; rintro r w2 ⟨rfl, rfl⟩))
  go_ret
  exact ⟨rfl, below_then HB.out b2⟩
/-- An entry of the key stands at the key's place. -/
def atK (l : List En) (s : ByteArray) : Bool := match l[placeM l s]? with | some e => decide (e.1 = s) | none => false
set_option maxHeartbeats 2000000 in
theorem bsfE_any {w : World} {A : Option Addr} {n c : Nat} {l : List En} (hR : RdG kEn w A n c l) (hS : Srt l) (hn : n ≤ 1000000) (s : ByteArray) {b : Nat} (hb : KeyBox w b) :
    Calls Try.prog 46 #[.slice A n c, .string s, .func (.func 47) #[] #[.pointer (some ⟨b, 0, none⟩)]] w fun e w' => e = .returned (.tuple #[.int .i64 (placeM l s), .bool (atK l s)]) ∧ Below w.heap.size w w' := by
  have hln := hR.len
  have hcap := hR.cap
  have hmax := hR.max
  have hp : placeM l s ≤ n := by rw [← hln]; exact place_le l s
  have ha : ∀ (i : Nat) (e : En), l[i]? = some e → i < placeM l s → cmpS e.1 s = -1 := fun i e h hi => cmpS_lt (place_before hi h)
  have hc : ∀ (i : Nat) (e : En), l[i]? = some e → placeM l s ≤ i → 0 ≤ cmpS e.1 s := fun i e h hi => by
    by_cases he : e.1 = s
    · rw [he, cmpS_eq]; exact Int.le_refl _
    · rw [cmpS_gt (place_behind hS hi h he)]; decide
  have hd : ∀ e : En, l[placeM l s]? = some e → (cmpS e.1 s == 0) = atK l s := fun e h => by
    unfold atK
    rw [h]
    by_cases he : e.1 = s
    · rw [he, cmpS_eq]; simp [he]
    · rw [cmpS_gt (place_behind hS (Nat.le_refl _) h he)]
      show ((1 : Int) == 0) = decide (e.1 = s)
      rw [decide_eq_false he]; rfl
  have hz : n ≤ placeM l s → atK l s = false := fun h => by
    unfold atK
    rw [List.getElem?_eq_none (by omega)]
  obtain ⟨p, hpe⟩ : ∃ p, placeM l s = p := ⟨_, rfl⟩
  obtain ⟨q, hqe⟩ : ∃ q, atK l s = q := ⟨_, rfl⟩
  rw [hpe] at hp ha hc hd hz ⊢
  rw [hqe] at hd hz ⊢
  have HA := Lib.hid ha
  have HC := Lib.hid hc
  have HD := Lib.hid hd
  have HZ := Lib.hid hz
  have HR := Lib.hid (And.intro hR hb)
  clear ha hc hd hz hpe hqe hR hb hln
  go_enter Try.func46, Try.ntmps46
  go_wp2
  go_loopw [9, 10] (fun s9 s10 wr => ∃ lo hi : Nat, s9 = .int .i64 lo ∧ s10 = .int .i64 hi ∧ lo ≤ p ∧ p ≤ hi ∧ hi ≤ n ∧ Below w.heap.size w wr) (fun s9 s10 _ => (intOf s10).toNat - (intOf s9).toNat)
  case atStart => exact ⟨0, n, rfl, rfl, Nat.zero_le _, hp, Nat.le_refl _, Below.refl _ _⟩
  case round =>
    obtain ⟨lo, hi, rfl, rfl, hlp, hph, hhn, hB⟩ := hrel
    have hbx := HR.out.2.below hB
    by_cases hlt : lo < hi
    · have hm1 : (lo + hi) / 2 < n := by omega
      obtain ⟨g, o, d, rfl, hd, z0, z1, z2⟩ := (HR.out.1.below hB).atEn hm1
      have e1 : ((lo : Int) + (hi : Int)) / 2 = (((lo + hi) / 2 : Nat) : Int) := by omega
      generalize hM : (lo + hi) / 2 = M at *
      have hK := cmpK_any d s hbx
      have HB := Lib.hid hB
      by_cases hcmp : M < p
      · have hcv := HA.out M d hd hcmp
        rw [hcv] at hK
        clear hd hcv hB hbx
        go_wp2_with (go_at_call 47; refine hK.mono ?_; rintro e w' ⟨rfl, b2⟩)
        exact ⟨⟨M + 1, hi, by go_num, rfl, by omega, hph, hhn, below_then HB.out b2⟩, by simp [intOf]; omega⟩
      · have hcv := HC.out M d hd (by omega)
        obtain ⟨z, hz⟩ : ∃ z, cmpS d.1 s = z := ⟨_, rfl⟩
        rw [hz] at hcv hK
        have hcn : ¬ z < 0 := by omega
        clear hd hz hB hbx
        go_wp2_with (go_at_call 47; refine hK.mono ?_; rintro e w' ⟨rfl, b2⟩)
        exact ⟨⟨lo, M, rfl, rfl, hlp, by omega, by omega, below_then HB.out b2⟩, by simp [intOf]; omega⟩
    · obtain rfl : lo = p := by omega
      obtain rfl : hi = lo := by omega
      by_cases hln2 : hi < n
      · obtain ⟨g, o, d, rfl, hd, z0, z1, z2⟩ := (HR.out.1.below hB).atEn hln2
        have hK := cmpK_any d s hbx
        have hcv := HD.out d hd
        obtain ⟨z, hz⟩ : ∃ z, cmpS d.1 s = z := ⟨_, rfl⟩
        rw [hz] at hcv hK
        have HB := Lib.hid hB
        clear hd hz hB hbx hlt
        go_wp2_with (go_at_call 47; refine hK.mono ?_; rintro e w' ⟨rfl, b2⟩)
        go_ret2
        exact ⟨rfl, below_then HB.out b2⟩
      · have hq := HZ.out (by omega)
        subst hq
        have HB := Lib.hid hB
        clear hlt hB hbx
        go_wp2
        go_ret2
        exact ⟨rfl, HB.out⟩
end Go.Proofs.Ytjkomnjkolggnaa
