/- slices.BinarySearchFunc, slices.Insert over rows of numbers, strings.Clone, as the landed pool calls them. Conditions: none beyond those typed. -/
import Derived.Test.YtenchaifnfgijaaQfind
namespace Go.Proofs.Ytenchaifnfgijaa
open Go.ChangeShapes Go.WideShapes Go.ChangeAt Go.RowKit
set_option linter.unusedVariables false
set_option linter.unusedSimpArgs false
set_option maxRecDepth 100000

section
variable {w : World} {A : Option Addr} {n c : Nat} {l : List Nat}
theorem give1 (x y : Int) (hx : 0 ≤ x ∧ x ≤ 1000000) (hy : 0 ≤ y ∧ y ≤ 1000000) (w : World) :
    Calls Try.prog 54 #[.int .i64 x, .int .i64 y] w fun e w' => e = .returned (.int .i64 (y - x)) ∧ w = w' := by
  have hw : IntKind.i64.wrap (y - x) = y - x := by rw [IntKind.wrap_i64]; omega
  go_enter Try.func54, Try.ntmps54
  go_wp2
  go_ret
  exact ⟨rfl, rfl⟩
theorem ints_at {i d : Nat} (h : l[i]? = some d) : (intsN l)[i]? = some (d : Int) := by simp [intsN, h]
set_option maxHeartbeats 1000000 in
theorem bsf_any (hR : RdG kI w A n c (intsN l)) (hl : ∀ d ∈ l, d ≤ 1000000) (hn : n ≤ 1000000) {p id : Nat} (hid : id ≤ 1000000) (hp : p ≤ n) (h1 : ∀ d ∈ l.take p, id < d) (h2 : ∀ d ∈ l.drop p, d < id) :
    Calls Try.prog 53 #[.slice A n c, .int .i64 id, .func (.func 54) #[] #[]] w fun e w' => e = .returned (.tuple #[.int .i64 p, .bool false]) ∧ w = w' := by
  have hln : l.length = n := by have := hR.len; simpa [intsN] using this
  have ha : ∀ (i d : Nat), l[i]? = some d → i < p → id < d := fun i d h hi => h1 d (List.mem_of_getElem? (i := i) (by rw [List.getElem?_take, if_pos hi]; exact h))
  have hb : ∀ (i d : Nat), l[i]? = some d → p ≤ i → d < id := fun i d h hi => h2 d (List.mem_of_getElem? (i := i - p) (by rw [List.getElem?_drop, show p + (i - p) = i by omega]; exact h))
  have HA := Lib.hid ha
  have HB := Lib.hid hb
  have HL := Lib.hid hl
  have HN := Lib.hid hln
  clear h1 h2 ha hb hl hln
  go_enter Try.func53, Try.ntmps53
  go_wp2
  go_loopw [9, 10] (fun s9 s10 wr => ∃ lo hi : Nat, s9 = .int .i64 lo ∧ s10 = .int .i64 hi ∧ lo ≤ p ∧ p ≤ hi ∧ hi ≤ n ∧ w = wr) (fun s9 s10 _ => (intOf s10).toNat - (intOf s9).toNat)
  case atStart => exact ⟨0, n, rfl, rfl, Nat.zero_le _, hp, Nat.le_refl _, rfl⟩
  case round =>
    obtain ⟨lo, hi, rfl, rfl, hlp, hph, hhn, rfl⟩ := hrel
    by_cases hlt : lo < hi
    · have hm1 : (lo + hi) / 2 < n := by omega
      obtain ⟨b, o, d, rfl, hd, _, hbw, y0⟩ := hR.atI hm1
      obtain ⟨dn, hdn, rfl⟩ : ∃ dn : Nat, l[(lo + hi) / 2]? = some dn ∧ (dn : Int) = d := by
        have hll : (lo + hi) / 2 < l.length := by rw [HN.out]; exact hm1
        have h3 := List.getElem?_eq_getElem hll
        rw [ints_at h3] at hd
        injection hd with hd
        exact ⟨_, h3, hd⟩
      have hdm := HL.out dn (List.mem_of_getElem? hdn)
      have hc := give1 (dn : Int) (id : Int) (by omega) (by omega) w
      have hcap := hR.cap
      have hmax := hR.max
      have hm2 : ((lo + hi) / 2 : Nat) < n := hm1
      generalize hM : (lo + hi) / 2 = M at *
      have e1 : ((lo : Int) + (hi : Int)) / 2 = (M : Int) := by omega
      by_cases hcmp : M < p
      · have hlt2 := HA.out M dn hdn hcmp
        have hcv : (id : Int) - (dn : Int) < 0 := by omega
        clear hd hdn
        go_wp2_with (go_at_call 54; refine hc.mono ?_; rintro e w' ⟨rfl, rfl⟩)
        exact ⟨⟨M + 1, hi, by go_num, rfl, by omega, hph, hhn, trivial⟩, by simp [intOf]; omega⟩
      · have hlt2 := HB.out M dn hdn (by omega)
        have hcv : ¬ (id : Int) - (dn : Int) < 0 := by omega
        clear hd hdn
        go_wp2_with (go_at_call 54; refine hc.mono ?_; rintro e w' ⟨rfl, rfl⟩)
        exact ⟨⟨lo, M, rfl, rfl, hlp, by omega, by omega, trivial⟩, by simp [intOf]; omega⟩
    · obtain rfl : lo = p := by omega
      obtain rfl : hi = lo := by omega
      by_cases hln2 : hi < n
      · obtain ⟨b, o, d, rfl, hd, _, hbw, y0⟩ := hR.atI hln2
        obtain ⟨dn, hdn, rfl⟩ : ∃ dn : Nat, l[hi]? = some dn ∧ (dn : Int) = d := by
          have hll : hi < l.length := by rw [HN.out]; exact hln2
          have h3 := List.getElem?_eq_getElem hll
          rw [ints_at h3] at hd
          injection hd with hd
          exact ⟨_, h3, hd⟩
        have hdm := HL.out dn (List.mem_of_getElem? hdn)
        have hc := give1 (dn : Int) (id : Int) (by omega) (by omega) w
        have hlt2 := HB.out hi dn hdn (Nat.le_refl _)
        have hcv : ((id : Int) - (dn : Int) == 0) = false := by rw [beq_eq_false_iff_ne]; omega
        have hcap := hR.cap
        have hmax := hR.max
        clear hd hdn hlt
        go_wp2_with (go_at_call 54; refine hc.mono ?_; rintro e w' ⟨rfl, rfl⟩)
        go_ret2
        exact ⟨rfl, rfl⟩
      · clear hlt
        go_wp2
        go_ret2
        exact ⟨rfl, rfl⟩
end
end Go.Proofs.Ytenchaifnfgijaa
