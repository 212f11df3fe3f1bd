/- Entries in memory; the specified table in memory: the box, place, Exact, Untracked, Total, New. Conditions: none beyond those typed. -/
import Derived.Test.YtjkomnjkolggnaaSvgood
import Derived.Test.YtjkomnjkolggnaaZcol
import Derived.Test.YtjkomnjkolggnaaKgrow
import Derived.Test.YtjkomnjkolggnaaKmake
import Derived.Test.YtjkomnjkolggnaaBm
namespace Go.Proofs.Ytjkomnjkolggnaa
open Go.ChangeShapes Go.WideShapes Go.ChangeAt Go.RowKit
set_option linter.unusedVariables false
set_option linter.unusedSimpArgs false
set_option maxRecDepth 100000

def enE (e : En) : List Value := [.string e.1, .int .u64 e.2.1, .int .u64 e.2.2]
/-- Entries. -/
def kEn : Kind En where
  ty := 32
  sl := 39
  k := 3
  by_ := 32
  zero := .agg #[.string ⟨#[]⟩, .int .u64 0, .int .u64 0]
  enc := enE
  pos := by omega
  len := fun _ => rfl
  one := fun a u hu => by simp [enE] at hu; rcases hu with rfl | rfl | rfl <;> rfl
  under := Try.underlying39
  info := by kernel_rfl
  zk := rfl
  small := by omega
/-- An entry as the cells of a box. -/
abbrev VE (e : En) : Array Value := #[.string e.1, .int .u64 e.2.1, .int .u64 e.2.2]
theorem RdG.atEn {w : World} {A : Option Addr} {n c j : Nat} {l : List En} (h : RdG kEn w A n c l) (hj : j < n) :
    ∃ b o e, A = some ⟨b, o, none⟩ ∧ l[j]? = some e ∧ w.cell? ⟨b, o + j * 3, none⟩ = some (.string e.1) ∧ w.cell? ⟨b, o + j * 3 + 1, none⟩ = some (.int .u64 e.2.1) ∧ w.cell? ⟨b, o + j * 3 + 2, none⟩ = some (.int .u64 e.2.2) := by
  obtain ⟨b, o, e, hA, hl, _, _, hc⟩ := h.at_ hj
  exact ⟨b, o, e, hA, hl, hc 0 _ rfl, hc 1 _ rfl, hc 2 _ rfl⟩
def placeI (l : List En) (k : ByteArray) : Int := match placeE l k with | none => -1 | some i => (i : Int)
theorem str_eq_en {a b : ByteArray} : (a.toList == b.toList) = decide (a = b) := str_beq a b
theorem placeE_at {l : List En} {k : ByteArray} {i : Nat} {e : En} (hi : l[i]? = some e) (he : e.1 = k) (hno : ∀ (j : Nat) (x : En), j < i → l[j]? = some x → x.1 ≠ k) : placeE l k = some i := by
  unfold placeE
  obtain ⟨hil, hie⟩ := List.getElem?_eq_some_iff.1 hi
  refine List.findIdx?_eq_some_iff_getElem.2 ⟨hil, by rw [hie]; exact decide_eq_true he, fun j hj => ?_⟩
  have := hno j _ hj (List.getElem?_eq_getElem (by omega))
  simpa using this
theorem placeE_gone {l : List En} {k : ByteArray} (hno : ∀ (j : Nat) (x : En), l[j]? = some x → x.1 ≠ k) : placeE l k = none := by
  unfold placeE
  refine List.findIdx?_eq_none_iff.2 fun x hx => ?_
  obtain ⟨j, hj⟩ := List.mem_iff_getElem?.1 hx
  exact decide_eq_false (hno j x hj)
set_option maxHeartbeats 1000000 in
theorem place_any {w : World} {A : Option Addr} {n c : Nat} {l : List En} (h : RdG kEn w A n c l) (hn : n ≤ 1000000) (k : ByteArray) :
    Calls Try.prog 34 #[.slice A n c, .string k] w fun e w' => e = .returned (.int .i64 (placeI l k)) ∧ Below w.heap.size w w' := by
  have hcap := h.cap
  have hmax := h.max
  have hl := h.len
  obtain ⟨r, hr⟩ : ∃ r, placeI l k = r := ⟨_, rfl⟩
  rw [hr]
  go_enter Try.func34, Try.ntmps34
  go_wp2
  go_loopw [9] (fun iv wr => ∃ i : Nat, i ≤ n ∧ iv = .int .i64 (i : Int) ∧ (∀ (j : Nat) (x : En), j < i → l[j]? = some x → x.1 ≠ k) ∧ Below w.heap.size w wr) (fun iv _ => n - (intOf iv).toNat)
  case atStart => exact ⟨0, Nat.zero_le _, rfl, fun j x hj => absurd hj (Nat.not_lt_zero _), Below.refl _ _⟩
  case round =>
    obtain ⟨i, hi, rfl, hno, hB⟩ := hrel
    by_cases hlt : i < n
    · obtain ⟨b, o, e, rfl, he, c0, c1, c2⟩ := (h.below hB).atEn hlt
      have hiI : (i : Int) < (n : Int) := by omega
      have hB2 := Lib.hid (hB.alloc hB.size (.cells (VE e) 32))
      have v0 : (wr.alloc (.cells (VE e) 32)).cell? ⟨wr.heap.size, 0, none⟩ = some (.string e.1) := (World.cell?_alloc_at (w := wr) _ _ _ _ rfl).trans rfl
      by_cases hk : e.1 = k
      · have hb : (e.1.toList == k.toList) = true := by rw [str_eq_en]; exact decide_eq_true hk
        have hR := Lib.hid (show r = (i : Int) by rw [← hr]; unfold placeI; rw [placeE_at he hk hno])
        clear hno hB h hr hk he
        go_wp2
        go_ret
        rw [hR.out]
        exact ⟨rfl, hB2.out⟩
      · have hb : (e.1.toList == k.toList) = false := by rw [str_eq_en]; exact decide_eq_false hk
        have hN := Lib.hid (show ∀ (j : Nat) (x : En), j < i + 1 → l[j]? = some x → x.1 ≠ k from fun j x hj hx => by
          rcases Nat.lt_or_ge j i with h1 | h1
          · exact hno j x h1 hx
          · obtain rfl : j = i := by omega
            rw [he] at hx; injection hx with hx; subst hx; exact hk)
        clear hno hB h hr hk he
        go_wp2
        go_roundw
        case rel => exact ⟨i + 1, by omega, by go_num, hN.out, hB2.out⟩
        case measure => (simp [intOf] <;> omega)
    · have hiI : ¬ (i : Int) < (n : Int) := by omega
      have hR := Lib.hid (show r = -1 by
        rw [← hr]; unfold placeI
        rw [placeE_gone fun j x hx => hno j x (by have := (List.getElem?_eq_some_iff.1 hx).1; omega) hx])
      have hB2 := Lib.hid hB
      clear hno hB h hr
      go_wp2
      go_ret
      rw [hR.out]
      exact ⟨rfl, hB2.out⟩
theorem exact_any (a b c : Int) (ha : 0 ≤ a ∧ a ≤ 18446744073709551615) (hc : 0 ≤ c ∧ c ≤ 18446744073709551615) (w : World) :
    Calls Try.prog 36 #[.int .u64 a, .int .u64 b, .int .u64 c] w fun e w' => e = .returned (.bool (decide (a ≤ c ∧ b ≤ c - a))) ∧ w = w' := by
  by_cases h1 : a ≤ c
  · have hw : IntKind.u64.wrap (c - a) = c - a := IntWalk.u64_in _ ⟨by omega, by omega⟩
    by_cases h2 : b ≤ c - a
    · rw [decide_eq_true (⟨h1, h2⟩ : a ≤ c ∧ b ≤ c - a)]
      go_enter Try.func36, Try.ntmps36
      go_wp2
      go_ret
      exact ⟨rfl, rfl⟩
    · rw [decide_eq_false (fun h : a ≤ c ∧ b ≤ c - a => h2 h.2)]
      go_enter Try.func36, Try.ntmps36
      go_wp2
      go_ret
      exact ⟨rfl, rfl⟩
  · rw [decide_eq_false (fun h : a ≤ c ∧ b ≤ c - a => h1 h.1)]
    go_enter Try.func36, Try.ntmps36
    go_wp2
    go_ret
    exact ⟨rfl, rfl⟩
section
variable {P : Nat → Prop} {col col' : Col} {w w' : World} {k g : Nat} {t : TSt} {A : Option Addr} {c : Nat}
end
end Go.Proofs.Ytjkomnjkolggnaa
