/- Words laid together in one text. Conditions: none beyond those typed. -/
import Derived.Test.YtgkokglngpbamaaTm
import Derived.Test.YtgkokglngpbamaaBm
import Derived.SizedLaws
import Derived.ChangeMaps5
import Derived.Deep.SlicePairs
import Derived.Deep.Strs
import Derived.Test.YtgkokglngpbamaaRows
import Derived.WalkKit
import Derived.ProofKit
import Derived.OpenShut
import Derived.IntWalk
import Derived.Lib.Hide
/- Arguments as the walks take them: slices of numbers, of tags, events. Conditions: none beyond those typed. -/
namespace Go.Proofs.Ytgkokglngpbamaa
open Go.ChangeShapes Go.WideShapes Go.ChangeAt Go.RowKit
set_option linter.unusedVariables false
set_option linter.unusedSimpArgs false
set_option maxRecDepth 100000

theorem own : ownKnob Try.prog.godebug = none := by kernel_rfl
theorem laidOut : laidOutB Try.prog = true := by kernel_rfl
theorem bytes_u8 : Try.prog.bytesOf 5 = 1 := by kernel_rfl
theorem Arg.none (W : World) : Arg W none 0 0 := ⟨Nat.le_refl _, by omega, [], Rd.nil _ _ _ (by simp [maxLen])⟩
theorem Arg.some {W : World} {x : Addr} {len cap : Nat} {zs : List Int} (hl : len ≤ cap) (hz : zs.length = cap) (hc : cap ≤ 140737488351232)
    (hcell : ∀ i, i < zs.length → W.cell? (x.add i) = some (.int .u8 (zs.getD i 0))) (hw : ∀ n ∈ zs, (Lit.int .u8 n).wf = true) : Arg W (some x) len cap := by
  refine ⟨hl, hc, zs.take len, by rw [List.length_take]; omega, hl, by simp only [maxLen]; omega, fun z h => bounds_u8 (hw z (List.mem_of_mem_take h)), fun j z h => ?_⟩
  rw [List.getElem?_take] at h
  split at h
  · rename_i hj
    have hjl : j < zs.length := (List.getElem?_eq_some_iff.1 h).1
    obtain ⟨b, off, rfl, hc⟩ := ints_at hcell (by omega)
    refine ⟨b, off, rfl, ?_⟩
    rw [hc j hjl, List.getD_eq_getElem?_getD, h]
    rfl
  · cases h

theorem RdI.none (W : World) : RdI W none 0 0 := ⟨Nat.le_refl _, by simp [maxLen], fun j hj => absurd hj (by omega)⟩
theorem RdI.some {W : World} {x : Addr} {len cap : Nat} {zs : List Int} (hl : len ≤ cap) (hm : cap ≤ maxLen) (hz : zs.length = cap)
    (hcell : ∀ i, i < zs.length → W.cell? (x.add i) = some (.int .i64 (zs.getD i 0))) (hw : ∀ n ∈ zs, (Lit.int .i64 n).wf = true) : RdI W (some x) len cap := by
  refine ⟨hl, hm, fun j hj => ?_⟩
  have hjl : j < zs.length := by omega
  obtain ⟨b, off, rfl, hc⟩ := ints_at hcell (by omega)
  have hb := bounds_i64 (hw zs[j] (List.getElem_mem hjl))
  refine ⟨b, off, zs[j], rfl, ?_, hb.1, hb.2⟩
  rw [hc j hjl, List.getD_eq_getElem?_getD, List.getElem?_eq_getElem hjl]
  rfl

theorem ArgT.none (W : World) : ArgT W none 0 0 [] := ⟨rfl, Nat.le_refl _, by simp [maxLen], fun t ht => absurd ht (by simp), fun j t ht => by simp at ht⟩
theorem ArgT.some {W : World} {x : Addr} {len cap : Nat} (hl : len ≤ cap) (hm : cap ≤ maxLen) (V0 V1 : Nat → Value)
    (hcell : ∀ i, i < cap → W.cell? (x.add (i * 2)) = some (V0 i) ∧ W.cell? (x.add (i * 2 + 1)) = some (V1 i))
    (hs : ∀ i, i < cap → ∃ s0 s1 : ByteArray, V0 i = .string s0 ∧ V1 i = .string s1 ∧ s0.size ≤ maxLen ∧ s1.size ≤ maxLen) : ∃ l, ArgT W (some x) len cap l := by
  let f : Value → ByteArray := fun v => match v with | .string s => s | _ => ⟨#[]⟩
  have hat : ∀ j t, ((List.range len).map fun i => (f (V0 i), f (V1 i)))[j]? = Option.some t → j < len ∧ V0 j = .string t.1 ∧ V1 j = .string t.2 ∧ t.1.size ≤ maxLen ∧ t.2.size ≤ maxLen := by
    intro j t ht
    rw [List.getElem?_map] at ht
    rcases Nat.lt_or_ge j len with hj | hj
    · rw [List.getElem?_range hj] at ht
      obtain ⟨s0, s1, e0, e1, z0, z1⟩ := hs j (by omega)
      have ht' : (f (V0 j), f (V1 j)) = t := Option.some.inj ht
      rw [e0, e1] at ht'
      have h' : (s0, s1) = t := ht'
      subst h'
      exact ⟨hj, e0, e1, z0, z1⟩
    · rw [List.getElem?_eq_none (by simpa using hj)] at ht; cases ht
  refine ⟨(List.range len).map fun i => (f (V0 i), f (V1 i)), by simp, hl, hm, fun t ht => ?_, fun j t ht => ?_⟩
  · obtain ⟨j, hj⟩ := List.mem_iff_getElem?.1 ht
    obtain ⟨_, _, _, z0, z1⟩ := hat j t hj
    exact ⟨z0, z1⟩
  · obtain ⟨hj, e0, e1, _, _⟩ := hat j t ht
    obtain ⟨b, off, spot⟩ := x
    have hspot : spot = Option.none := by simpa [Addr.add] using World.cell?_spot (hcell 0 (by omega)).1
    subst hspot
    obtain ⟨c0, c1⟩ := hcell j (by omega)
    rw [Go.WideShapes.add_plain] at c0 c1
    exact ⟨b, off, rfl, by rw [c0, e0], by rw [← Nat.add_assoc] at c1; rw [c1, e1]⟩

end Go.Proofs.Ytgkokglngpbamaa

/- Contracts of the functions of package sat and of the specified results of layer 1: each returns what the plain functions below give, and leaves the world alone. Conditions: the numbers fit 64 bits. -/
namespace Go.Proofs.Ytgkokglngpbamaa
open Go.ChangeShapes Go.WideShapes Go.ChangeAt Go.RowKit
set_option linter.unusedVariables false

def addV (a b : Int) : Int := if a ≤ 18446744073709551615 - b then a + b else 18446744073709551615
def addB (a b : Int) : Bool := decide (a ≤ 18446744073709551615 - b)
def subV (a b : Int) : Int := if a < b then 0 else a - b
def subB (a b : Int) : Bool := decide (b ≤ a)
def mulV (a b : Int) : Int := if a * b ≤ 18446744073709551615 then a * b else 18446744073709551615
def mulB (a b : Int) : Bool := decide (a * b ≤ 18446744073709551615)
def fitsB (t w : Int) : Bool := decide (t + w ≤ 9223372036854775808)
def shareV (t p : Int) : Int := if p < 1 then t else t / p

theorem addV_yes {a b : Int} (h : a ≤ 18446744073709551615 - b) : addV a b = a + b := if_pos h
theorem addV_no {a b : Int} (h : ¬ a ≤ 18446744073709551615 - b) : addV a b = 18446744073709551615 := if_neg h
theorem addB_yes {a b : Int} (h : a ≤ 18446744073709551615 - b) : addB a b = true := decide_eq_true h
theorem addB_no {a b : Int} (h : ¬ a ≤ 18446744073709551615 - b) : addB a b = false := decide_eq_false h
theorem subV_lt {a b : Int} (h : a < b) : subV a b = 0 := if_pos h
theorem subV_ge {a b : Int} (h : ¬ a < b) : subV a b = a - b := if_neg h
theorem subB_lt {a b : Int} (h : a < b) : subB a b = false := decide_eq_false (by omega)
theorem subB_ge {a b : Int} (h : ¬ a < b) : subB a b = true := decide_eq_true (by omega)
theorem mulV_yes {a b : Int} (h : a * b ≤ 18446744073709551615) : mulV a b = a * b := if_pos h
theorem mulV_no {a b : Int} (h : ¬ a * b ≤ 18446744073709551615) : mulV a b = 18446744073709551615 := if_neg h
theorem mulB_yes {a b : Int} (h : a * b ≤ 18446744073709551615) : mulB a b = true := decide_eq_true h
theorem mulB_no {a b : Int} (h : ¬ a * b ≤ 18446744073709551615) : mulB a b = false := decide_eq_false h
theorem fits_no {t w : Int} (h : ¬ t + w ≤ 9223372036854775808) : fitsB t w = false := decide_eq_false h
theorem fits_yes {t w : Int} (h : t + w ≤ 9223372036854775808) : fitsB t w = true := decide_eq_true h
theorem shareV_lt {t p : Int} (h : p < 1) : shareV t p = t := if_pos h
theorem shareV_ge {t p : Int} (h : ¬ p < 1) : shareV t p = t / p := if_neg h

theorem addV_le (a b : Int) (ha : 0 ≤ a ∧ a ≤ 18446744073709551615) (hb : 0 ≤ b ∧ b ≤ 18446744073709551615) : 0 ≤ addV a b ∧ addV a b ≤ 18446744073709551615 := by unfold addV; split <;> omega
theorem subV_le (a b : Int) (ha : 0 ≤ a ∧ a ≤ 18446744073709551615) (hb : 0 ≤ b ∧ b ≤ 18446744073709551615) : 0 ≤ subV a b ∧ subV a b ≤ 18446744073709551615 := by unfold subV; split <;> omega

theorem ret2 {a a' : Int} {b b' : Bool} (h : a = a') (g : b = b') :
    Ending.returned (.tuple #[.int .u64 a, .bool b]) = .returned (.tuple #[.int .u64 a', .bool b']) := by rw [h, g]
theorem ret1 {a a' : Int} (h : a = a') : Ending.returned (.int .u64 a) = .returned (.int .u64 a') := by rw [h]
theorem retb {b b' : Bool} (g : b = b') : Ending.returned (.bool b) = .returned (.bool b') := by rw [g]

/- The product: 'a > Most / b' says the same as 'a * b > Most' where b is positive. -/
theorem mul_test {a b : Int} (hb : 0 < b) : 18446744073709551615 / b < a ↔ ¬ a * b ≤ 18446744073709551615 := by
  rw [Int.not_le, Int.ediv_lt_iff_lt_mul hb]

set_option maxHeartbeats 400000 in
theorem fits_any (a b : Int) (w : World) (ha : 0 ≤ a ∧ a ≤ 18446744073709551615) (hb : 0 ≤ b ∧ b ≤ 18446744073709551615) :
    Calls Try.prog 39 #[.int .u64 a, .int .u64 b] w fun e w' => e = .returned (.bool (fitsB a b)) ∧ w = w' := by
  obtain ⟨h1, h2⟩ := ha
  obtain ⟨h3, h4⟩ := hb
  by_cases h : 9223372036854775808 < a
  · go_enter Try.func39, Try.ntmps39
    go_wp2
    go_ret
    exact ⟨retb (fits_no (by omega)).symm, rfl⟩
  · have h' : a ≤ 9223372036854775808 := by omega
    go_enter Try.func39, Try.ntmps39
    go_wp2
    go_ret
    exact ⟨retb (by unfold fitsB; exact decide_eq_decide.2 (by omega)), rfl⟩

set_option maxHeartbeats 400000 in
theorem rfits_any (a b : Int) (w : World) (ha : 0 ≤ a ∧ a ≤ 18446744073709551615) (hb : 0 ≤ b ∧ b ≤ 18446744073709551615) :
    Calls Try.prog 44 #[.int .u64 a, .int .u64 b] w fun e w' => e = .returned (.bool (fitsB a b)) ∧ w = w' := by
  obtain ⟨h1, h2⟩ := ha
  obtain ⟨h3, h4⟩ := hb
  by_cases h : 9223372036854775808 < a
  · go_enter Try.func44, Try.ntmps44
    go_wp2
    go_ret
    exact ⟨retb (fits_no (by omega)).symm, rfl⟩
  · have h' : a ≤ 9223372036854775808 := by omega
    go_enter Try.func44, Try.ntmps44
    go_wp2
    go_ret
    exact ⟨retb (by unfold fitsB; exact decide_eq_decide.2 (by omega)), rfl⟩

end Go.Proofs.Ytgkokglngpbamaa

/- The plain mathematics of tables (Space-Saving): entries in the order in which they got their counts. Conditions: none beyond those typed. -/
namespace Go.Proofs.Ytgkokglngpbamaa
set_option linter.unusedVariables false
set_option linter.unusedSimpArgs false

/-- A size that memory bears. -/
def Sz (s : ByteArray) : Prop := s.size ≤ 281474976710656
def W64 (z : Int) : Prop := 0 ≤ z ∧ z ≤ 18446744073709551615
/-- An entry: key, own, slack. -/
abbrev En := ByteArray × Int × Int
def ctE (e : En) : Int := e.2.1 + e.2.2
/-- Room for m keys; the entries; Base, Total. -/
structure TSt where
  m : Nat
  l : List En
  base : Int
  sum : Int
def placeE (l : List En) (k : ByteArray) : Option Nat := l.findIdx? fun e => decide (e.1 = k)
def withoutE (l : List En) (i : Nat) : List En := l.take i ++ l.drop (i + 1)
def ctAt (l : List En) (i : Nat) : Int := ((l[i]?).map ctE).getD 0
/-- The first of those with the least count among the first i. -/
def leastTo (l : List En) : Nat → Nat
  | 0 => 0
  | i + 1 => if ctAt l i < ctAt l (leastTo l i) then i else leastTo l i
def leastE (l : List En) : Nat := leastTo l l.length
def sumE : List En → Int
  | [] => 0
  | e :: l => ctE e + sumE l
def TSt.addS (t : TSt) (k : ByteArray) (w : Int) : Int × TSt :=
  if k.size = 0 then (3, t) else if w = 0 then (1, t) else if fitsB t.sum w = false then (12, t) else
  match placeE t.l k with
  | some i => (0, { t with sum := t.sum + w, l := withoutE t.l i ++ [(k, ((t.l[i]?).map fun e => e.2.1).getD 0 + w, ((t.l[i]?).map fun e => e.2.2).getD 0)] })
  | none => if t.l.length = t.m then (0, { t with sum := t.sum + w, base := ctAt t.l (leastE t.l), l := withoutE t.l (leastE t.l) ++ [(k, w, ctAt t.l (leastE t.l))] })
    else (0, { t with sum := t.sum + w, l := t.l ++ [(k, w, t.base)] })
def zeroE : En := (⟨#[]⟩, 0, 0)
def TSt.get (t : TSt) (k : ByteArray) : En × Bool := match placeE t.l k with | none => (zeroE, false) | some i => ((t.l[i]?).getD zeroE, true)
def TSt.take (t : TSt) (k : ByteArray) : TSt := match placeE t.l k with | none => t | some i => { t with l := withoutE t.l i }
def swapE (base : Int) (e : En) : En := (e.1, e.2.1, if e.2.1 < base ∧ e.2.2 < base - e.2.1 then base - e.2.1 else e.2.2)
def TSt.swapS (t : TSt) (k : ByteArray) (e : En) : (En × Int) × TSt := match placeE t.l k with
  | none => ((zeroE, 8), t)
  | some i => if e.1.size = 0 then ((zeroE, 3), t) else if (placeE t.l e.1).isSome = true then ((zeroE, 10), t) else
    if ¬ (e.2.1 ≤ ctAt t.l i ∧ e.2.2 ≤ ctAt t.l i - e.2.1) then ((zeroE, 1), t) else (((t.l[i]?).getD zeroE, 0), { t with l := withoutE t.l i ++ [swapE t.base e] })
def newT (m : Nat) : TSt := ⟨m, [], 0, 0⟩
structure GoodT (t : TSt) : Prop where
  m1 : 1 ≤ t.m ∧ t.m ≤ 64
  len : t.l.length ≤ t.m
  nd : (t.l.map Prod.fst).Nodup
  pos : ∀ e ∈ t.l, 0 ≤ e.2.1 ∧ 0 ≤ e.2.2 ∧ t.base ≤ ctE e ∧ 0 < e.1.size
  base0 : 0 ≤ t.base
  most : ((t.m - t.l.length : Nat) : Int) * t.base + sumE t.l ≤ t.sum
  top : t.sum ≤ 9223372036854775808
section
variable {l : List En} {k : ByteArray} {i j : Nat} {e : En} {t : TSt} {w : Int}
theorem placeE_some (h : placeE l k = some i) : ∃ e, l[i]? = some e ∧ e.1 = k ∧ i < l.length := by
  unfold placeE at h
  obtain ⟨hi, h1, _⟩ := List.findIdx?_eq_some_iff_getElem.1 h
  exact ⟨_, List.getElem?_eq_getElem hi, by simpa using h1, hi⟩
theorem placeE_none (h : placeE l k = none) : ∀ e ∈ l, e.1 ≠ k := fun e he => by
  unfold placeE at h
  have := List.findIdx?_eq_none_iff.1 h e he
  simpa using this
theorem sumE_app (l l' : List En) : sumE (l ++ l') = sumE l + sumE l' := by
  induction l with
  | nil => simp [sumE]
  | cons x l ih => show ctE x + sumE (l ++ l') = ctE x + sumE l + sumE l'; rw [ih]; omega
theorem without_at (h : l[i]? = some e) : (withoutE l i).length + 1 = l.length ∧ sumE (withoutE l i) + ctE e = sumE l ∧ (∀ x ∈ withoutE l i, x ∈ l) ∧ ((l.map Prod.fst).Nodup → ((withoutE l i).map Prod.fst).Nodup ∧ ∀ x ∈ withoutE l i, x.1 ≠ e.1) ∧ ∀ x ∈ l, x ∈ withoutE l i ∨ x = e := by
  obtain ⟨hi, he⟩ := List.getElem?_eq_some_iff.1 h
  have hs : l = l.take i ++ e :: l.drop (i + 1) := by
    have := List.take_append_drop i l
    rw [List.drop_eq_getElem_cons hi, he] at this
    exact this.symm
  have hm : ∀ x, x ∈ l ↔ x ∈ l.take i ∨ x = e ∨ x ∈ l.drop (i + 1) := fun x => by
    conv => lhs; rw [hs]
    rw [List.mem_append, List.mem_cons]
  refine ⟨?_, ?_, fun x hx => ?_, fun hn => ?_, fun x hx => ?_⟩
  · unfold withoutE; rw [List.length_append, List.length_take, List.length_drop]; omega
  · have h2 : sumE l = sumE (l.take i) + (ctE e + sumE (l.drop (i + 1))) := by
      conv => lhs; rw [hs]
      rw [sumE_app]; rfl
    unfold withoutE
    rw [sumE_app]; omega
  · unfold withoutE at hx
    rcases List.mem_append.1 hx with h1 | h1
    · exact (hm x).2 (.inl h1)
    · exact (hm x).2 (.inr (.inr h1))
  · rw [hs, List.map_append, List.map_cons] at hn
    have h1 := (List.perm_middle (a := e.1) (l₁ := (l.take i).map Prod.fst) (l₂ := (l.drop (i + 1)).map Prod.fst)).nodup_iff.1 hn
    obtain ⟨h2, h3⟩ := List.nodup_cons.1 h1
    rw [← List.map_append] at h2 h3
    exact ⟨h3, fun x hx hc => h2 (by rw [← hc]; exact List.mem_map.2 ⟨x, hx, rfl⟩)⟩
  · rcases (hm x).1 hx with h1 | h1 | h1
    · exact .inl (List.mem_append.2 (.inl h1))
    · exact .inr h1
    · exact .inl (List.mem_append.2 (.inr h1))
theorem ctAt_at (h : l[i]? = some e) : ctAt l i = ctE e := by unfold ctAt; rw [h]; rfl
theorem leastTo_spec : ∀ i, 0 < i → i ≤ l.length → leastTo l i < i ∧ (∀ j, j < i → ctAt l (leastTo l i) ≤ ctAt l j) ∧ ∀ j, j < leastTo l i → ctAt l (leastTo l i) < ctAt l j
  | 0, h, _ => absurd h (Nat.lt_irrefl 0)
  | 1, _, _ => by
    have h0 : leastTo l 1 = 0 := by simp [leastTo]
    rw [h0]
    exact ⟨by omega, fun j hj => by rw [show j = 0 by omega]; exact Int.le_refl _, fun j hj => absurd hj (Nat.not_lt_zero _)⟩
  | i + 2, _, hl => by
    obtain ⟨h1, h2, h3⟩ := leastTo_spec (i + 1) (by omega) (by omega)
    show (if ctAt l (i + 1) < ctAt l (leastTo l (i + 1)) then i + 1 else leastTo l (i + 1)) < i + 2 ∧ _
    have e0 : leastTo l (i + 2) = if ctAt l (i + 1) < ctAt l (leastTo l (i + 1)) then i + 1 else leastTo l (i + 1) := rfl
    rw [e0]
    by_cases hc : ctAt l (i + 1) < ctAt l (leastTo l (i + 1))
    · rw [if_pos hc]
      exact ⟨by omega, fun j hj => by
        rcases Nat.lt_or_ge j (i + 1) with h | h
        · have := h2 j h; omega
        · rw [show j = i + 1 by omega]; exact Int.le_refl _, fun j hj => by have := h2 j hj; omega⟩
    · rw [if_neg hc]
      exact ⟨by omega, fun j hj => by
        rcases Nat.lt_or_ge j (i + 1) with h | h
        · exact h2 j h
        · rw [show j = i + 1 by omega]; omega, h3⟩
theorem least_spec (h : 0 < l.length) : ∃ e, l[leastE l]? = some e ∧ (∀ x ∈ l, ctE e ≤ ctE x) ∧ leastE l < l.length := by
  obtain ⟨h1, h2, _⟩ := leastTo_spec l.length h (Nat.le_refl _)
  refine ⟨_, List.getElem?_eq_getElem h1, fun x hx => ?_, h1⟩
  obtain ⟨j, hj⟩ := List.mem_iff_getElem?.1 hx
  have hjl := (List.getElem?_eq_some_iff.1 hj).1
  have := h2 j hjl
  rw [ctAt_at hj, ctAt_at (List.getElem?_eq_getElem (show leastTo l l.length < l.length from h1))] at this
  exact this
theorem sumE_nonneg (h : ∀ e ∈ l, 0 ≤ ctE e) : 0 ≤ sumE l := by
  induction l with
  | nil => exact Int.le_refl _
  | cons x l ih =>
    have h1 := h x (by simp)
    have h2 := ih fun e he => h e (by simp [he])
    show 0 ≤ ctE x + sumE l
    omega
theorem sumE_ge (h : ∀ e ∈ l, 0 ≤ ctE e) (he : e ∈ l) : ctE e ≤ sumE l := by
  obtain ⟨i, hi⟩ := List.mem_iff_getElem?.1 he
  obtain ⟨_, h2, h3, _, _⟩ := without_at hi
  have := sumE_nonneg fun x hx => h x (h3 x hx)
  omega
theorem GoodT.ct0 (G : GoodT t) : ∀ e ∈ t.l, 0 ≤ ctE e := fun e he => by obtain ⟨h1, h2, _, _⟩ := G.pos e he; unfold ctE; omega
/-- All numbers are in range. -/
theorem GoodT.bd (G : GoodT t) (he : e ∈ t.l) : 0 ≤ e.2.1 ∧ 0 ≤ e.2.2 ∧ e.2.1 + e.2.2 ≤ 9223372036854775808 ∧ e.2.1 + e.2.2 ≤ t.sum := by
  obtain ⟨h1, h2, _, _⟩ := G.pos e he
  have h3 := sumE_ge G.ct0 he
  have h4 := G.most
  have h5 := G.top
  have h6 := Int.mul_nonneg (show (0 : Int) ≤ ((t.m - t.l.length : Nat) : Int) by omega) G.base0
  unfold ctE at h3
  omega
theorem GoodT.sum0 (G : GoodT t) : 0 ≤ t.sum := by
  have h4 := G.most
  have h6 := Int.mul_nonneg (show (0 : Int) ≤ ((t.m - t.l.length : Nat) : Int) by omega) G.base0
  have := sumE_nonneg G.ct0
  omega
theorem sumE_base (h : ∀ e ∈ l, t.base ≤ ctE e) : (l.length : Int) * t.base ≤ sumE l := by
  induction l with
  | nil => simp [sumE]
  | cons x l ih =>
    have h1 := h x (by simp)
    have h2 := ih fun e he => h e (by simp [he])
    show ((l.length + 1 : Nat) : Int) * t.base ≤ ctE x + sumE l
    rw [Int.natCast_add, Int.add_mul]
    omega
/-- m times Base is at most Total. -/
theorem GoodT.mbase (G : GoodT t) : (t.m : Int) * t.base ≤ t.sum := by
  have h1 := sumE_base (t := t) (l := t.l) fun e he => (G.pos e he).2.2.1
  have h2 := G.most
  have h3 : (t.m : Int) * t.base = ((t.m - t.l.length : Nat) : Int) * t.base + (t.l.length : Int) * t.base := by
    rw [← Int.add_mul]
    congr 1
    have := G.len
    omega
  omega
theorem GoodT.base_le (G : GoodT t) : t.base ≤ t.sum := by
  have h1 := G.mbase
  have h2 := G.m1
  have h3 : t.base ≤ (t.m : Int) * t.base := by
    have := Int.mul_le_mul_of_nonneg_right (show (1 : Int) ≤ (t.m : Int) by omega) G.base0
    omega
  omega
theorem newT_good {m : Nat} (h : 1 ≤ m ∧ m ≤ 64) : GoodT (newT m) := ⟨h, Nat.zero_le _, List.nodup_nil, fun e he => by simp [newT] at he, Int.le_refl _, by simp [newT, sumE], by simp [newT]⟩
end
end Go.Proofs.Ytgkokglngpbamaa

/- What lifts of stage 13 want: an entry that came in. Conditions: none beyond those typed. -/
namespace Go.Proofs.Ytgkokglngpbamaa
open Go.ChangeShapes Go.WideShapes Go.ChangeAt Go.RowKit
set_option linter.unusedVariables false
set_option linter.unusedSimpArgs false
set_option maxRecDepth 100000

theorem open_entry {H : Type} {enc : TypeId × Value → H} {W : World} {cs : Array Value} {d : DataW H} {p : List MemPlace} (h : DataW.Trod enc Try.prog W 0 (fun _ => true) true 32 (.agg cs) d p) :
    ∃ (s : ByteArray) (t x : Int) (y1 y2 : DataW H), cs = #[.string s, .int .u64 t, .int .u64 x] ∧ d = .agg [.lit (.string s.data.toList), y1, y2] ∧ W64 t ∧ W64 x := by
  obtain ⟨fuel, hf⟩ := h
  obtain ⟨y0, y1, y2, m, hd, hlen, t0, t1, t2⟩ := Go.Deep.trod_struct3 Try.underlying32 hf
  have e0 : Try.prog.cellsOf 32 = 3 := by kernel_rfl
  have e1 : Try.prog.cellsOf 9 = 1 := by kernel_rfl
  have e2 : Try.prog.cellsOf 30 = 1 := by kernel_rfl
  obtain ⟨l⟩ := cs
  have hlen' : l.length = 3 := by rw [← e0]; simpa [Value.cells] using hlen
  match l, hlen' with
  | [c0, c1, c2], _ =>
    simp only [Value.cells] at t0 t1 t2
    rw [e1] at t0
    rw [e2] at t1 t2
    simp at t0 t1 t2
    obtain ⟨s, h0, k0, _⟩ := DataW.trod_string Try.underlying9 t0
    obtain ⟨t, h1, _, w1⟩ := DataW.trod_int Try.underlying30 t1
    obtain ⟨x, h2, _, w2⟩ := DataW.trod_int Try.underlying30 t2
    simp only [List.cons.injEq, and_true] at h0 h1 h2
    subst h0 h1 h2
    injection hd with hd _
    rw [k0] at hd
    exact ⟨s, t, x, y1.1, y2.1, rfl, hd, bounds_u64 w1, bounds_u64 w2⟩
theorem sized_entry {H : Type} {ts : List TypeId} {ds : List (DataW H)} (h : (DataW.weightsEach Try.prog ts ds).all (· ≤ reachBytes) = true) {j : Nat} {s : ByteArray} {y1 y2 : DataW H} (ht : ts[j]? = some 32) (hd : ds[j]? = some (.agg [.lit (.string s.data.toList), y1, y2])) : Sz s := by
  have h1 : s.data.toList.length ≤ 140737488351232 := of_decide_eq_true (List.all_eq_true.1 h _ (DataW.weights_mem_each ht hd _ (by simp [DataW.weights, Try.underlying32, DataW.weightsEach])))
  have h2 := ba_size s
  unfold Sz
  omega
end Go.Proofs.Ytgkokglngpbamaa

/- Tables (Space-Saving): what stays true under Add, Take and Swap; what is known of the weights if weights are only added. Conditions: none beyond those typed. -/
namespace Go.Proofs.Ytgkokglngpbamaa
set_option linter.unusedVariables false
set_option linter.unusedSimpArgs false

section
variable {l : List En} {k : ByteArray} {i j : Nat} {e : En} {t : TSt} {w : Int}
theorem fits_le {s w : Int} (h : fitsB s w = true) : s + w ≤ 9223372036854775808 := of_decide_eq_true h
/-- An entry is replaced by one with a count that is not less than Base. -/
theorem nd_snoc (hn : (l.map Prod.fst).Nodup) (hk : ∀ x ∈ l, x.1 ≠ e.1) : ((l ++ [e]).map Prod.fst).Nodup := by
  rw [List.map_append]
  refine List.nodup_append.2 ⟨hn, by simp, fun a ha b hb hab => ?_⟩
  obtain ⟨x, hx, rfl⟩ := List.mem_map.1 ha
  simp at hb
  exact hk x hx (by rw [hab, hb])
/-- What Add does, by cases. -/
theorem addS_form (h : k.size = 0) : t.addS k w = (3, t) := if_pos h
theorem addS_zero (h : k.size ≠ 0) (hw : w = 0) : t.addS k w = (1, t) := by unfold TSt.addS; rw [if_neg h, if_pos hw]
theorem addS_over (h : k.size ≠ 0) (hw : w ≠ 0) (hf : fitsB t.sum w = false) : t.addS k w = (12, t) := by unfold TSt.addS; rw [if_neg h, if_neg hw, if_pos hf]
theorem addS_own (h : k.size ≠ 0) (hw : w ≠ 0) (hf : fitsB t.sum w = true) (hp : placeE t.l k = some i) (hi : t.l[i]? = some e) (he : e.1 = k) : t.addS k w = (0, { t with sum := t.sum + w, l := withoutE t.l i ++ [(e.1, e.2.1 + w, e.2.2)] }) := by
  unfold TSt.addS
  rw [if_neg h, if_neg hw, if_neg (by rw [hf]; exact Bool.noConfusion), hp]
  show (0, ({ t with sum := t.sum + w, l := withoutE t.l i ++ [(k, ((t.l[i]?).map fun e => e.2.1).getD 0 + w, ((t.l[i]?).map fun e => e.2.2).getD 0)] } : TSt)) = _
  rw [hi, he]; rfl
theorem addS_room (h : k.size ≠ 0) (hw : w ≠ 0) (hf : fitsB t.sum w = true) (hp : placeE t.l k = none) (hl : t.l.length ≠ t.m) : t.addS k w = (0, { t with sum := t.sum + w, l := t.l ++ [(k, w, t.base)] }) := by
  unfold TSt.addS
  rw [if_neg h, if_neg hw, if_neg (by rw [hf]; exact Bool.noConfusion), hp]
  exact if_neg hl
theorem addS_full (h : k.size ≠ 0) (hw : w ≠ 0) (hf : fitsB t.sum w = true) (hp : placeE t.l k = none) (hl : t.l.length = t.m) (hi : t.l[leastE t.l]? = some e) : t.addS k w = (0, { t with sum := t.sum + w, base := ctE e, l := withoutE t.l (leastE t.l) ++ [(k, w, ctE e)] }) := by
  unfold TSt.addS
  rw [if_neg h, if_neg hw, if_neg (by rw [hf]; exact Bool.noConfusion), hp]
  show (if t.l.length = t.m then _ else _) = _
  rw [if_pos hl, ctAt_at hi]
theorem GoodT.addS (G : GoodT t) (k : ByteArray) (hw : 0 ≤ w) : GoodT (t.addS k w).2 := by
  by_cases h : k.size = 0
  · rw [addS_form h]; exact G
  by_cases h0 : w = 0
  · rw [addS_zero h h0]; exact G
  cases hf : fitsB t.sum w with
  | false => rw [addS_over h h0 hf]; exact G
  | true =>
    have hsum := fits_le hf
    have hmost := G.most
    cases hp : placeE t.l k with
    | some i =>
      obtain ⟨e, hi, he, hil⟩ := placeE_some hp
      rw [addS_own h h0 hf hp hi he]
      obtain ⟨a1, a2, a3, a4, a5⟩ := without_at hi
      obtain ⟨a6, a7⟩ := a4 G.nd
      obtain ⟨p1, p2, p3, p4⟩ := G.pos e (List.mem_of_getElem? hi)
      have hlen : (withoutE t.l i ++ [(e.1, e.2.1 + w, e.2.2)]).length = t.l.length := by simp; omega
      refine ⟨G.m1, by rw [hlen]; exact G.len, nd_snoc a6 a7, fun x hx => ?_, G.base0, ?_, hsum⟩
      · rcases List.mem_append.1 hx with h1 | h1
        · exact G.pos x (a3 x h1)
        · rw [List.mem_singleton.1 h1]
          unfold ctE at p3 ⊢
          exact ⟨by show 0 ≤ e.2.1 + w; omega, p2, by show t.base ≤ e.2.1 + w + e.2.2; omega, p4⟩
      · show ((t.m - (withoutE t.l i ++ [(e.1, e.2.1 + w, e.2.2)]).length : Nat) : Int) * t.base + sumE (withoutE t.l i ++ [(e.1, e.2.1 + w, e.2.2)]) ≤ t.sum + w
        rw [hlen, sumE_app]
        show _ + (sumE (withoutE t.l i) + ((e.2.1 + w + e.2.2) + 0)) ≤ _
        unfold ctE at a2
        omega
    | none =>
      have hno := placeE_none hp
      have hks : 0 < k.size := by omega
      by_cases hl : t.l.length = t.m
      · have hm := G.m1
        obtain ⟨e, hi, hmin, hil⟩ := least_spec (l := t.l) (by omega)
        rw [addS_full h h0 hf hp hl hi]
        obtain ⟨a1, a2, a3, a4, a5⟩ := without_at hi
        obtain ⟨a6, a7⟩ := a4 G.nd
        obtain ⟨p1, p2, p3, p4⟩ := G.pos e (List.mem_of_getElem? hi)
        have hlen : (withoutE t.l (leastE t.l) ++ [(k, w, ctE e)]).length = t.m := by simp; omega
        have hc0 := G.ct0 e (List.mem_of_getElem? hi)
        refine ⟨G.m1, by rw [hlen]; exact Nat.le_refl _, nd_snoc a6 fun x hx => hno x (a3 x hx), fun x hx => ?_, hc0, ?_, hsum⟩
        · rcases List.mem_append.1 hx with h1 | h1
          · obtain ⟨q1, q2, _, q4⟩ := G.pos x (a3 x h1)
            exact ⟨q1, q2, hmin x (a3 x h1), q4⟩
          · rw [List.mem_singleton.1 h1]
            exact ⟨hw, hc0, by show ctE e ≤ w + ctE e; omega, hks⟩
        · show ((t.m - (withoutE t.l (leastE t.l) ++ [(k, w, ctE e)]).length : Nat) : Int) * ctE e + sumE (withoutE t.l (leastE t.l) ++ [(k, w, ctE e)]) ≤ t.sum + w
          rw [hlen, sumE_app, Nat.sub_self]
          show ((0 : Nat) : Int) * _ + (sumE (withoutE t.l (leastE t.l)) + ((w + ctE e) + 0)) ≤ _
          rw [hl, Nat.sub_self] at hmost
          simp at hmost ⊢
          omega
      · rw [addS_room h h0 hf hp hl]
        have hle := G.len
        refine ⟨G.m1, by show (t.l ++ [(k, w, t.base)]).length ≤ t.m; simp; omega, nd_snoc G.nd hno, fun x hx => ?_, G.base0, ?_, hsum⟩
        · rcases List.mem_append.1 hx with h1 | h1
          · exact G.pos x h1
          · rw [List.mem_singleton.1 h1]
            exact ⟨hw, G.base0, by show t.base ≤ w + t.base; omega, hks⟩
        · show ((t.m - (t.l ++ [(k, w, t.base)]).length : Nat) : Int) * t.base + sumE (t.l ++ [(k, w, t.base)]) ≤ t.sum + w
          rw [sumE_app, List.length_append, List.length_singleton]
          show _ + (sumE t.l + ((w + t.base) + 0)) ≤ _
          have e1 : ((t.m - t.l.length : Nat) : Int) * t.base = ((t.m - (t.l.length + 1) : Nat) : Int) * t.base + t.base := by
            rw [show t.m - t.l.length = (t.m - (t.l.length + 1)) + 1 by omega, Int.natCast_add, Int.add_mul]; omega
          omega
theorem GoodT.take (G : GoodT t) (k : ByteArray) : GoodT (t.take k) := by
  unfold TSt.take
  cases hp : placeE t.l k with
  | none => exact G
  | some i =>
    obtain ⟨e, hi, he, hil⟩ := placeE_some hp
    obtain ⟨a1, a2, a3, a4, a5⟩ := without_at hi
    have hmost := G.most
    have hle := G.len
    obtain ⟨p1, p2, p3, p4⟩ := G.pos e (List.mem_of_getElem? hi)
    refine ⟨G.m1, by show (withoutE t.l i).length ≤ t.m; omega, (a4 G.nd).1, fun x hx => G.pos x (a3 x hx), G.base0, ?_, G.top⟩
    show ((t.m - (withoutE t.l i).length : Nat) : Int) * t.base + sumE (withoutE t.l i) ≤ t.sum
    have e1 : ((t.m - (withoutE t.l i).length : Nat) : Int) * t.base = ((t.m - t.l.length : Nat) : Int) * t.base + t.base := by
      rw [show t.m - (withoutE t.l i).length = (t.m - t.l.length) + 1 by omega, Int.natCast_add, Int.add_mul]; omega
    omega
theorem swapE_ct {base : Int} (h1 : 0 ≤ e.2.1) (h2 : 0 ≤ e.2.2) : base ≤ ctE (swapE base e) ∧ 0 ≤ (swapE base e).2.2 ∧ e.2.2 ≤ (swapE base e).2.2 ∧ (ctE (swapE base e) = ctE e ∨ ctE (swapE base e) = base) := by
  unfold swapE ctE
  by_cases h : e.2.1 < base ∧ e.2.2 < base - e.2.1
  · rw [if_pos h]
    exact ⟨by show base ≤ e.2.1 + (base - e.2.1); omega, by show 0 ≤ base - e.2.1; omega, by show e.2.2 ≤ base - e.2.1; omega, .inr (by show e.2.1 + (base - e.2.1) = base; omega)⟩
  · rw [if_neg h]
    exact ⟨by show base ≤ e.2.1 + e.2.2; omega, h2, Int.le_refl _, .inl rfl⟩
theorem GoodT.swapS (G : GoodT t) (k : ByteArray) (h1 : 0 ≤ e.2.1) (h2 : 0 ≤ e.2.2) : GoodT (t.swapS k e).2 := by
  unfold TSt.swapS
  cases hp : placeE t.l k with
  | none => exact G
  | some i =>
    obtain ⟨x, hi, hx, hil⟩ := placeE_some hp
    show GoodT (if e.1.size = 0 then _ else _ : (En × Int) × TSt).2
    by_cases c1 : e.1.size = 0
    · rw [if_pos c1]; exact G
    rw [if_neg c1]
    by_cases c2 : (placeE t.l e.1).isSome = true
    · rw [if_pos c2]; exact G
    rw [if_neg c2]
    by_cases c3 : ¬ (e.2.1 ≤ ctAt t.l i ∧ e.2.2 ≤ ctAt t.l i - e.2.1)
    · rw [if_pos c3]; exact G
    rw [if_neg c3]
    have c3' := Decidable.not_not.1 c3
    rw [ctAt_at hi] at c3'
    obtain ⟨a1, a2, a3, a4, a5⟩ := without_at hi
    have hmost := G.most
    obtain ⟨p1, p2, p3, p4⟩ := G.pos x (List.mem_of_getElem? hi)
    obtain ⟨s1, s2, _, s3⟩ := swapE_ct (base := t.base) h1 h2
    have hno : placeE t.l e.1 = none := by
      cases h : placeE t.l e.1 with
      | none => rfl
      | some j => rw [h] at c2; exact absurd rfl c2
    have hlen : (withoutE t.l i ++ [swapE t.base e]).length = t.l.length := by simp; omega
    refine ⟨G.m1, by show (withoutE t.l i ++ [swapE t.base e]).length ≤ t.m; rw [hlen]; exact G.len, nd_snoc (a4 G.nd).1 fun y hy => placeE_none hno y (a3 y hy), fun y hy => ?_, G.base0, ?_, G.top⟩
    · rcases List.mem_append.1 hy with h | h
      · exact G.pos y (a3 y h)
      · rw [List.mem_singleton.1 h]
        exact ⟨h1, s2, s1, by show 0 < e.1.size; omega⟩
    · show ((t.m - (withoutE t.l i ++ [swapE t.base e]).length : Nat) : Int) * t.base + sumE (withoutE t.l i ++ [swapE t.base e]) ≤ t.sum
      rw [hlen, sumE_app]
      show _ + (sumE (withoutE t.l i) + (ctE (swapE t.base e) + 0)) ≤ _
      have : ctE (swapE t.base e) ≤ ctE x := by
        rcases s3 with h | h
        · rw [h]; unfold ctE at c3' ⊢; omega
        · rw [h]; exact p3
      omega
/-- The weight of a key in a list of additions. -/
def freqE : List (ByteArray × Int) → ByteArray → Int
  | [], _ => 0
  | a :: l, k => freqE l k + if a.1 = k then a.2 else 0
/-- Weights were only added; the last one first. -/
structure OnlyE (t : TSt) (h : List (ByteArray × Int)) : Prop where
  good : GoodT t
  low : t.l.length < t.m → t.base = 0
  all : sumE t.l = t.sum
  pos : ∀ a ∈ h, 0 ≤ a.2
  in_ : ∀ e ∈ t.l, e.2.1 ≤ freqE h e.1 ∧ freqE h e.1 ≤ ctE e
  out : ∀ k, (∀ e ∈ t.l, e.1 ≠ k) → freqE h k ≤ t.base
theorem freq_pos : ∀ {h : List (ByteArray × Int)}, (∀ a ∈ h, 0 ≤ a.2) → ∀ k, 0 ≤ freqE h k
  | [], _, _ => Int.le_refl _
  | a :: h, hh, k => by
    have h1 := freq_pos (h := h) (fun b hb => hh b (by simp [hb])) k
    have h2 := hh a (by simp)
    show 0 ≤ freqE h k + if a.1 = k then a.2 else 0
    split <;> omega
theorem OnlyE.new {m : Nat} (hm : 1 ≤ m ∧ m ≤ 64) : OnlyE (newT m) [] := ⟨newT_good hm, fun _ => rfl, rfl, fun a ha => by simp at ha, fun e he => by simp [newT] at he, fun k _ => Int.le_refl _⟩
theorem freq_cons {h : List (ByteArray × Int)} {a : ByteArray × Int} {k : ByteArray} : freqE (a :: h) k = freqE h k + if a.1 = k then a.2 else 0 := rfl
theorem OnlyE.addS {h : List (ByteArray × Int)} (O : OnlyE t h) (hk : k.size ≠ 0) (hw : 0 < w) (hf : fitsB t.sum w = true) : (t.addS k w).1 = 0 ∧ OnlyE (t.addS k w).2 ((k, w) :: h) ∧ (t.addS k w).2.sum = t.sum + w ∧ (t.addS k w).2.m = t.m := by
  have G := O.good
  have G' := G.addS k (Int.le_of_lt hw)
  have hw0 : w ≠ 0 := by omega
  have hpos : ∀ a ∈ (k, w) :: h, 0 ≤ a.2 := fun a ha => by
    rcases List.mem_cons.1 ha with rfl | ha
    · exact Int.le_of_lt hw
    · exact O.pos a ha
  cases hp : placeE t.l k with
  | some i =>
    obtain ⟨e, hi, he, hil⟩ := placeE_some hp
    have hA := addS_own hk hw0 hf hp hi he
    rw [hA] at G' ⊢
    obtain ⟨a1, a2, a3, a4, a5⟩ := without_at hi
    obtain ⟨a6, a7⟩ := a4 G.nd
    have hlen : (withoutE t.l i ++ [(e.1, e.2.1 + w, e.2.2)]).length = t.l.length := by simp; omega
    obtain ⟨i1, i2⟩ := O.in_ e (List.mem_of_getElem? hi)
    refine ⟨rfl, ⟨G', fun h1 => O.low (by rw [← hlen]; exact h1), ?_, hpos, fun x hx => ?_, fun k' hk' => ?_⟩, rfl, rfl⟩
    · show sumE (withoutE t.l i ++ [(e.1, e.2.1 + w, e.2.2)]) = t.sum + w
      rw [sumE_app]
      show sumE (withoutE t.l i) + ((e.2.1 + w + e.2.2) + 0) = _
      have := O.all
      unfold ctE at a2
      omega
    · rw [freq_cons]
      rcases List.mem_append.1 hx with h1 | h1
      · rw [if_neg (fun hc => a7 x h1 (by rw [he]; exact hc.symm))]
        have := O.in_ x (a3 x h1)
        omega
      · rw [List.mem_singleton.1 h1]
        show e.2.1 + w ≤ freqE h e.1 + (if k = e.1 then w else 0) ∧ freqE h e.1 + (if k = e.1 then w else 0) ≤ e.2.1 + w + e.2.2
        rw [if_pos he.symm]
        unfold ctE at i2
        omega
    · rw [freq_cons, if_neg (fun hc => hk' (e.1, e.2.1 + w, e.2.2) (by simp) (by show e.1 = k'; rw [he]; exact hc))]
      have := O.out k' fun x hx => by
        rcases a5 x hx with h1 | h1
        · exact hk' x (by simp [h1])
        · rw [h1]; exact hk' (e.1, e.2.1 + w, e.2.2) (by simp)
      show _ + 0 ≤ t.base
      omega
  | none =>
    have hno := placeE_none hp
    have hfk := O.out k hno
    by_cases hl : t.l.length = t.m
    · have hm := G.m1
      obtain ⟨e, hi, hmin, hil⟩ := least_spec (l := t.l) (by omega)
      have hA := addS_full hk hw0 hf hp hl hi
      rw [hA] at G' ⊢
      obtain ⟨a1, a2, a3, a4, a5⟩ := without_at hi
      obtain ⟨a6, a7⟩ := a4 G.nd
      obtain ⟨p1, p2, p3, p4⟩ := G.pos e (List.mem_of_getElem? hi)
      have hlen : (withoutE t.l (leastE t.l) ++ [(k, w, ctE e)]).length = t.m := by simp; omega
      refine ⟨rfl, ⟨G', fun h1 => ?_, ?_, hpos, fun x hx => ?_, fun k' hk' => ?_⟩, rfl, rfl⟩
      · exfalso
        have h1' : (withoutE t.l (leastE t.l) ++ [(k, w, ctE e)]).length < t.m := h1
        omega
      · show sumE (withoutE t.l (leastE t.l) ++ [(k, w, ctE e)]) = t.sum + w
        rw [sumE_app]
        show sumE (withoutE t.l (leastE t.l)) + ((w + ctE e) + 0) = _
        have := O.all
        omega
      · rw [freq_cons]
        rcases List.mem_append.1 hx with h1 | h1
        · rw [if_neg (fun hc => hno x (a3 x h1) hc.symm)]
          have := O.in_ x (a3 x h1)
          omega
        · rw [List.mem_singleton.1 h1]
          show w ≤ freqE h k + (if k = k then w else 0) ∧ freqE h k + (if k = k then w else 0) ≤ w + ctE e
          rw [if_pos rfl]
          have h0 : 0 ≤ freqE h k := freq_pos O.pos k
          omega
      · rw [freq_cons, if_neg (fun hc => hk' (k, w, ctE e) (by simp) hc)]
        show freqE h k' + 0 ≤ ctE e
        by_cases hke : k' = e.1
        · subst hke
          have := (O.in_ e (List.mem_of_getElem? hi)).2
          omega
        · have := O.out k' fun x hx => by
            rcases a5 x hx with h1 | h1
            · exact hk' x (by simp [h1])
            · rw [h1]; exact fun hc => hke hc.symm
          omega
    · have hA := addS_room hk hw0 hf hp hl
      rw [hA] at G' ⊢
      have hle := G.len
      have hb0 := O.low (by omega)
      refine ⟨rfl, ⟨G', fun _ => hb0, ?_, hpos, fun x hx => ?_, fun k' hk' => ?_⟩, rfl, rfl⟩
      · show sumE (t.l ++ [(k, w, t.base)]) = t.sum + w
        rw [sumE_app]
        show sumE t.l + ((w + t.base) + 0) = _
        have := O.all
        omega
      · rw [freq_cons]
        rcases List.mem_append.1 hx with h1 | h1
        · rw [if_neg (fun hc => hno x h1 hc.symm)]
          have := O.in_ x h1
          omega
        · rw [List.mem_singleton.1 h1]
          show w ≤ freqE h k + (if k = k then w else 0) ∧ freqE h k + (if k = k then w else 0) ≤ w + t.base
          rw [if_pos rfl]
          have h0 : 0 ≤ freqE h k := freq_pos O.pos k
          omega
      · rw [freq_cons, if_neg (fun hc => hk' (k, w, t.base) (by simp) hc)]
        have := O.out k' fun x hx => hk' x (by simp [hx])
        show _ + 0 ≤ t.base
        omega
end
end Go.Proofs.Ytgkokglngpbamaa
