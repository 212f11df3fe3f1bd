/- Deck.Events: a row of events of a deck's making. Conditions: none beyond those typed. -/
import Derived.Test.YtfihaonpifoekaaFrow
namespace Go.Proofs.Ytfihaonpifoekaa
open Go.ChangeShapes Go.WideShapes Go.ChangeAt Go.RowKit
set_option linter.unusedVariables false
set_option linter.unusedSimpArgs false
set_option maxRecDepth 100000

/-- What Deck.Events gives back. -/
def EventsDk (B : World) (g : Nat) (A : Option Addr) (n c : Nat) (most : Nat) (W : World) (e : Ending) (W' : World) : Prop :=
  ∃ A' m c' L, e = .returned (.slice A' m c') ∧ RdE W' A' m c' L ∧ 1 ≤ m ∧ m ≤ most + 1 ∧ (∀ e ∈ L, Fit e) ∧ Dk B W' g A n c ∧ W.grownBy W' (some g)
theorem RdT.grownN {w w' : World} {A : Option Addr} {n c : Nat} {l : List Tg} {row : Option Nat} (h : RdT w A n c l) (hg : w.grownBy w' row) (hne : 0 < n → ∀ b o, A = some ⟨b, o, none⟩ → some b ≠ row) : RdT w' A n c l := by
  rcases Nat.eq_zero_or_pos n with h0 | h0
  · subst h0
    obtain rfl : l = [] := List.eq_nil_of_length_eq_zero h.len
    exact RdT.nil _ _ _ h.max
  · exact h.grown hg (hne h0)
theorem Tells.grown {w w' : World} {R : List RawE} {L : List Ev} {row : Option Nat} (h : Tells w R L) (hg : w.grownBy w' row) (hr : ∀ r ∈ R, 0 < r.2.1 → ∀ b o, r.1 = some ⟨b, o, none⟩ → some b ≠ row) : Tells w' R L :=
  ⟨h.1, fun j r e hj he => by
    obtain ⟨a, b, c, d⟩ := h.2 j r e hj he
    exact ⟨a.grownN hg (hr r (List.mem_of_getElem? hj)), b, c, d⟩⟩
/-- The tags of these raw events lie elsewhere: in blocks from base on, but not in the row's. -/
def Apart (base : Nat) (v : Value) (R : List RawE) : Prop := ∀ r ∈ R, 0 < r.2.1 → ∀ b o, r.1 = some ⟨b, o, none⟩ → base ≤ b ∧ v.ownBlock ≠ some b
theorem Apart.next {w : World} {base : Nat} {v v' : Value} {R : List RawE} {L : List Ev} {A : Option Addr} {n c : Nat} {t x : Int} {l : List Tg} (h : Apart base v R) (hT : Tells w R L) (hr : RdT w A n c l) (hv : v'.ownBlock = v.ownBlock ∨ v'.ownBlock = some w.heap.size)
    (hA : ∀ b o, A = some ⟨b, o, none⟩ → base ≤ b ∧ v.ownBlock ≠ some b) : Apart base v' (R ++ [(A, n, c, t, x)]) := by
  have key : ∀ (B : Option Addr) (m d : Nat) (q : List Tg), RdT w B m d q → 0 < m → ∀ b o, B = some ⟨b, o, none⟩ → v.ownBlock ≠ some b → v'.ownBlock ≠ some b := by
    intro B m d q hq hm b o e hne
    obtain ⟨b', o', _, _, e', _, _, _, hb, _⟩ := hq.at_ hm
    rw [e] at e'
    injection e' with e'
    injection e' with e1 _
    subst e1
    rcases hv with h | h <;> rw [h]
    · exact hne
    · intro e; injection e; omega
  intro r hr' hm b o e
  rcases List.mem_append.1 hr' with h' | h'
  · obtain ⟨j, hj⟩ := List.mem_iff_getElem?.1 h'
    have hjl : j < L.length := by rw [← hT.1]; exact (List.getElem?_eq_some_iff.1 hj).1
    obtain ⟨a, _⟩ := hT.2 j r _ hj (List.getElem?_eq_getElem hjl)
    obtain ⟨h1, h2⟩ := h r h' hm b o e
    exact ⟨h1, key _ _ _ _ a hm b o e h2⟩
  · simp at h'; subst h'
    obtain ⟨h1, h2⟩ := hA b o e
    exact ⟨h1, key _ _ _ _ hr hm b o e h2⟩
theorem fit_one {l : List Tg} {n : Nat} {t x : Int} (h : OneErr l) (hn : n ≤ 3) (hl : l.length = n) (ht : 0 ≤ t ∧ t ≤ 1099511627776) (hx : 0 ≤ x ∧ x ≤ 18446744073709551615) : Fit (l, t, x) := ⟨by show l.length ≤ 3; omega, h.2, ht, hx⟩

set_option maxHeartbeats 1000000 in
theorem events_any {B W : World} {g n c : Nat} {A : Option Addr} (time most : Nat) (h : Dk B W g A n c) (ht : time ≤ 1000000000000) (hm : most ≤ 1000) :
    Calls Try.prog 21 #[.pointer (some ⟨g, 0, none⟩), .int .i64 time, .int .i64 most] W (EventsDk B g A n c most W) := by
  have hgl := h.lt
  go_enter Try.func21, Try.ntmps21
  go_wp2_with fail
  refine (next_dk h ((most : Int) + 1) (by omega) (by omega)).mono ?_
  rintro e W1 ⟨r, hr, rfl, hD1, hg1⟩
  go_wp2
  go_loopw [7, 8] (fun v i W2 => ∃ (R : List RawE) (L : List Ev) (k : Int), OwnE W2 W.heap.size v R ∧ Tells W2 R L ∧ Apart W.heap.size v R ∧ (∀ e ∈ L, Fit e) ∧ Dk B W2 g A n c ∧ W.grownBy W2 (some g) ∧ (L.length : Int) + k = r ∧ -1 ≤ k ∧ i = .int .i64 k) (fun _ i _ => (intOf i + 1).toNat)
  case atStart => exact ⟨[], [], r, OwnE.nil _ _, Tells.nil _, (fun r hr => by simp at hr), by simp, hD1, hg1, by simp, by omega, rfl⟩
  case round =>
    obtain ⟨R, L, k, hO, hT, hX, hF, hD, hg, hrk, hk, rfl⟩ := hrel
    have hRL := hT.1
    by_cases hk0 : 0 ≤ k
    · go_wp2_with fail
      refine (next_dk hD 60 (by omega) (by omega)).mono ?_
      rintro e W2 ⟨s, hs, rfl, hD2, hg2⟩
      have hO2 := hO.grown hg2 (fun k hk => by injection hk; omega)
      have hT2 := hT.grown hg2 (fun r hr hm b o e => by have := (hX r hr hm b o e).1; intro e'; injection e'; omega)
      have hG2 := hg.trans hg2
      have hz2 := hG2.size
      clear hO hT hg hg2 hD hD1 hg1
      go_wp2_with fail
      have hm0 : 0 ≤ max ((time : Int) + (s : Int) - 20) 0 ∧ max ((time : Int) + (s : Int) - 20) 0 ≤ 1099511627776 := by omega
      generalize max ((time : Int) + (s : Int) - 20) 0 = t at *
      refine (devent_own t hD2).mono ?_
      rintro e W3 ⟨A3, n3, c3, l3, x3, rfl, hr3, hn3, ho3, hx3, hD3, hg3, hf3⟩
      have hO3 := hO2.grown hg3 (fun k hk => by injection hk; omega)
      have hT3 := hT2.grown hg3 (fun r hr hm b o e => by have := (hX r hr hm b o e).1; intro e'; injection e'; omega)
      have hG3 := hG2.trans hg3
      have hz3 := hG3.size
      have hA3 : ∀ b o, A3 = some ⟨b, o, none⟩ → W.heap.size ≤ b ∧ u7.ownBlock ≠ some b := fun b o e => by
        have h1 := hf3 b o e
        refine ⟨by omega, fun e' => ?_⟩
        have := (hO2.lt b e').2
        omega
      have hFit := fit_one ho3 hn3 hr3.len hm0 hx3
      clear hO2 hT2 hG2 hD2 hg3 hz2
      have hr4 := hr3.alloc (.cells #[.slice A3 n3 c3, .int .i64 t, .int .u64 x3] 66)
      have hT4 := hT3.below ((Below.refl _ _).alloc (Nat.le_refl _) (.cells #[.slice A3 n3 c3, .int .i64 t, .int .u64 x3] 66))
      have hO4 := hO3.alloc (.cells #[.slice A3 n3 c3, .int .i64 t, .int .u64 x3] 66)
      have hD4 := hD3.alloc (.cells #[.slice A3 n3 c3, .int .i64 t, .int .u64 x3] 66)
      have hG4 := hG3.trans (World.grownBy_alloc W3 (.cells #[.slice A3 n3 c3, .int .i64 t, .int .u64 x3] 66) _)
      have hz4 := hG4.size
      have hN4 := RawAt.one' (w := W3) (r := (A3, n3, c3, t, x3)) rfl
      have hlen : R.length + 1 ≤ 1000000 := by omega
      clear hr3 hT3 hO3 hD3 hG3 hz3 hf3 hx3
      go_wp2_with (at_builtin; refine wpList_appE rfl (.tmp 17) (.tmp 26) rfl W.heap.size _ R rfl _ 1 1 [(A3, n3, c3, t, x3)] rfl hO4 hN4 hlen hz4 ?_; intro v5 W5 hO5 hg5 hv5)
      have hrow : ∀ k, u7.ownBlock = some k → W.heap.size ≤ k := fun k hk => (hO4.lt k hk).1
      have hD5 := hD4.far hg5 (fun k hk => by have := hrow k hk; omega)
      have hG5 := grown_on hG4 hg5 hrow
      have hX5 := hX.next hT4 hr4 (t := t) (x := x3) hv5 hA3
      have hr5 := hr4.grownN hg5 (fun _ b o e e' => (hA3 b o e).2 e'.symm)
      have hT5 := (hT4.grown hg5 (fun r hr hm b o e e' => (hX r hr hm b o e).2 e'.symm)).snoc (r := (A3, n3, c3, t, x3)) (e := (l3, t, x3)) hr5 (show n3 ≤ 1000 by omega) rfl rfl
      clear hO4 hN4 hD4 hG4 hT4 hX hr4 hr5 hg5 hA3
      go_roundw
      case rel =>
        refine ⟨_, _, k - 1, hO5, hT5, hX5, ?_, hD5, hG5, ?_, by omega, by go_num⟩
        · intro e he
          rcases List.mem_append.1 he with h | h
          · exact hF e h
          · simp at h; subst h; exact hFit
        · rw [List.length_append]; simp; omega
      case measure => (simp [intOf] <;> omega)
    · obtain ⟨A4, c4, rfl, hr4⟩ := hO.form hRL
      go_wp2
      go_ret
      exact ⟨A4, L.length, c4, L, rfl, ⟨R, hr4, hT⟩, by omega, by omega, hF, hD, hg⟩
end Go.Proofs.Ytfihaonpifoekaa
