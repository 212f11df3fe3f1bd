/- The plain mathematics of tables (Space-Saving): entries in the order in which they got their counts. Conditions: none beyond those typed. -/
import Derived.Test.YtbdafhephmoedaaSat
namespace Go.Proofs.Ytbdafhephmoedaa
set_option linter.unusedVariables false
set_option linter.unusedSimpArgs false

/-- A size that memory bears. -/
def Sz (s : ByteArray) : Prop := s.size ≤ 281474976710656
def W64 (z : Int) : Prop := 0 ≤ z ∧ z ≤ 18446744073709551615
/-- An entry: key, own, slack. -/
abbrev En := ByteArray × Int × Int
def ctE (e : En) : Int := e.2.1 + e.2.2
/-- Room for m keys; the entries; Base, Total. -/
structure TSt where
  m : Nat
  l : List En
  base : Int
  sum : Int
def placeE (l : List En) (k : ByteArray) : Option Nat := l.findIdx? fun e => decide (e.1 = k)
def withoutE (l : List En) (i : Nat) : List En := l.take i ++ l.drop (i + 1)
def ctAt (l : List En) (i : Nat) : Int := ((l[i]?).map ctE).getD 0
/-- The first of those with the least count among the first i. -/
def leastTo (l : List En) : Nat → Nat
  | 0 => 0
  | i + 1 => if ctAt l i < ctAt l (leastTo l i) then i else leastTo l i
def leastE (l : List En) : Nat := leastTo l l.length
def sumE : List En → Int
  | [] => 0
  | e :: l => ctE e + sumE l
def TSt.addS (t : TSt) (k : ByteArray) (w : Int) : Int × TSt :=
  if k.size = 0 then (3, t) else if w = 0 then (1, t) else if fitsB t.sum w = false then (12, t) else
  match placeE t.l k with
  | some i => (0, { t with sum := t.sum + w, l := withoutE t.l i ++ [(k, ((t.l[i]?).map fun e => e.2.1).getD 0 + w, ((t.l[i]?).map fun e => e.2.2).getD 0)] })
  | none => if t.l.length = t.m then (0, { t with sum := t.sum + w, base := ctAt t.l (leastE t.l), l := withoutE t.l (leastE t.l) ++ [(k, w, ctAt t.l (leastE t.l))] })
    else (0, { t with sum := t.sum + w, l := t.l ++ [(k, w, t.base)] })
def zeroE : En := (⟨#[]⟩, 0, 0)
def TSt.get (t : TSt) (k : ByteArray) : En × Bool := match placeE t.l k with | none => (zeroE, false) | some i => ((t.l[i]?).getD zeroE, true)
def TSt.take (t : TSt) (k : ByteArray) : TSt := match placeE t.l k with | none => t | some i => { t with l := withoutE t.l i }
def swapE (base : Int) (e : En) : En := (e.1, e.2.1, if e.2.1 < base ∧ e.2.2 < base - e.2.1 then base - e.2.1 else e.2.2)
def TSt.swapS (t : TSt) (k : ByteArray) (e : En) : (En × Int) × TSt := match placeE t.l k with
  | none => ((zeroE, 8), t)
  | some i => if e.1.size = 0 then ((zeroE, 3), t) else if (placeE t.l e.1).isSome = true then ((zeroE, 10), t) else
    if ¬ (e.2.1 ≤ ctAt t.l i ∧ e.2.2 ≤ ctAt t.l i - e.2.1) then ((zeroE, 1), t) else (((t.l[i]?).getD zeroE, 0), { t with l := withoutE t.l i ++ [swapE t.base e] })
def newT (m : Nat) : TSt := ⟨m, [], 0, 0⟩
structure GoodT (t : TSt) : Prop where
  m1 : 1 ≤ t.m ∧ t.m ≤ 64
  len : t.l.length ≤ t.m
  nd : (t.l.map Prod.fst).Nodup
  pos : ∀ e ∈ t.l, 0 ≤ e.2.1 ∧ 0 ≤ e.2.2 ∧ t.base ≤ ctE e ∧ 0 < e.1.size
  base0 : 0 ≤ t.base
  most : ((t.m - t.l.length : Nat) : Int) * t.base + sumE t.l ≤ t.sum
  top : t.sum ≤ 9223372036854775808
section
variable {l : List En} {k : ByteArray} {i j : Nat} {e : En} {t : TSt} {w : Int}
theorem placeE_some (h : placeE l k = some i) : ∃ e, l[i]? = some e ∧ e.1 = k ∧ i < l.length := by
  unfold placeE at h
  obtain ⟨hi, h1, _⟩ := List.findIdx?_eq_some_iff_getElem.1 h
  exact ⟨_, List.getElem?_eq_getElem hi, by simpa using h1, hi⟩
theorem placeE_none (h : placeE l k = none) : ∀ e ∈ l, e.1 ≠ k := fun e he => by
  unfold placeE at h
  have := List.findIdx?_eq_none_iff.1 h e he
  simpa using this
theorem sumE_app (l l' : List En) : sumE (l ++ l') = sumE l + sumE l' := by
  induction l with
  | nil => simp [sumE]
  | cons x l ih => show ctE x + sumE (l ++ l') = ctE x + sumE l + sumE l'; rw [ih]; omega
theorem without_at (h : l[i]? = some e) : (withoutE l i).length + 1 = l.length ∧ sumE (withoutE l i) + ctE e = sumE l ∧ (∀ x ∈ withoutE l i, x ∈ l) ∧ ((l.map Prod.fst).Nodup → ((withoutE l i).map Prod.fst).Nodup ∧ ∀ x ∈ withoutE l i, x.1 ≠ e.1) ∧ ∀ x ∈ l, x ∈ withoutE l i ∨ x = e := by
  obtain ⟨hi, he⟩ := List.getElem?_eq_some_iff.1 h
  have hs : l = l.take i ++ e :: l.drop (i + 1) := by
    have := List.take_append_drop i l
    rw [List.drop_eq_getElem_cons hi, he] at this
    exact this.symm
  have hm : ∀ x, x ∈ l ↔ x ∈ l.take i ∨ x = e ∨ x ∈ l.drop (i + 1) := fun x => by
    conv => lhs; rw [hs]
    rw [List.mem_append, List.mem_cons]
  refine ⟨?_, ?_, fun x hx => ?_, fun hn => ?_, fun x hx => ?_⟩
  · unfold withoutE; rw [List.length_append, List.length_take, List.length_drop]; omega
  · have h2 : sumE l = sumE (l.take i) + (ctE e + sumE (l.drop (i + 1))) := by
      conv => lhs; rw [hs]
      rw [sumE_app]; rfl
    unfold withoutE
    rw [sumE_app]; omega
  · unfold withoutE at hx
    rcases List.mem_append.1 hx with h1 | h1
    · exact (hm x).2 (.inl h1)
    · exact (hm x).2 (.inr (.inr h1))
  · rw [hs, List.map_append, List.map_cons] at hn
    have h1 := (List.perm_middle (a := e.1) (l₁ := (l.take i).map Prod.fst) (l₂ := (l.drop (i + 1)).map Prod.fst)).nodup_iff.1 hn
    obtain ⟨h2, h3⟩ := List.nodup_cons.1 h1
    rw [← List.map_append] at h2 h3
    exact ⟨h3, fun x hx hc => h2 (by rw [← hc]; exact List.mem_map.2 ⟨x, hx, rfl⟩)⟩
  · rcases (hm x).1 hx with h1 | h1 | h1
    · exact .inl (List.mem_append.2 (.inl h1))
    · exact .inr h1
    · exact .inl (List.mem_append.2 (.inr h1))
theorem ctAt_at (h : l[i]? = some e) : ctAt l i = ctE e := by unfold ctAt; rw [h]; rfl
theorem leastTo_spec : ∀ i, 0 < i → i ≤ l.length → leastTo l i < i ∧ (∀ j, j < i → ctAt l (leastTo l i) ≤ ctAt l j) ∧ ∀ j, j < leastTo l i → ctAt l (leastTo l i) < ctAt l j
  | 0, h, _ => absurd h (Nat.lt_irrefl 0)
  | 1, _, _ => by
    have h0 : leastTo l 1 = 0 := by simp [leastTo]
    rw [h0]
    exact ⟨by omega, fun j hj => by rw [show j = 0 by omega]; exact Int.le_refl _, fun j hj => absurd hj (Nat.not_lt_zero _)⟩
  | i + 2, _, hl => by
    obtain ⟨h1, h2, h3⟩ := leastTo_spec (i + 1) (by omega) (by omega)
    show (if ctAt l (i + 1) < ctAt l (leastTo l (i + 1)) then i + 1 else leastTo l (i + 1)) < i + 2 ∧ _
    have e0 : leastTo l (i + 2) = if ctAt l (i + 1) < ctAt l (leastTo l (i + 1)) then i + 1 else leastTo l (i + 1) := rfl
    rw [e0]
    by_cases hc : ctAt l (i + 1) < ctAt l (leastTo l (i + 1))
    · rw [if_pos hc]
      exact ⟨by omega, fun j hj => by
        rcases Nat.lt_or_ge j (i + 1) with h | h
        · have := h2 j h; omega
        · rw [show j = i + 1 by omega]; exact Int.le_refl _, fun j hj => by have := h2 j hj; omega⟩
    · rw [if_neg hc]
      exact ⟨by omega, fun j hj => by
        rcases Nat.lt_or_ge j (i + 1) with h | h
        · exact h2 j h
        · rw [show j = i + 1 by omega]; omega, h3⟩
theorem least_spec (h : 0 < l.length) : ∃ e, l[leastE l]? = some e ∧ (∀ x ∈ l, ctE e ≤ ctE x) ∧ leastE l < l.length := by
  obtain ⟨h1, h2, _⟩ := leastTo_spec l.length h (Nat.le_refl _)
  refine ⟨_, List.getElem?_eq_getElem h1, fun x hx => ?_, h1⟩
  obtain ⟨j, hj⟩ := List.mem_iff_getElem?.1 hx
  have hjl := (List.getElem?_eq_some_iff.1 hj).1
  have := h2 j hjl
  rw [ctAt_at hj, ctAt_at (List.getElem?_eq_getElem (show leastTo l l.length < l.length from h1))] at this
  exact this
theorem sumE_nonneg (h : ∀ e ∈ l, 0 ≤ ctE e) : 0 ≤ sumE l := by
  induction l with
  | nil => exact Int.le_refl _
  | cons x l ih =>
    have h1 := h x (by simp)
    have h2 := ih fun e he => h e (by simp [he])
    show 0 ≤ ctE x + sumE l
    omega
theorem sumE_ge (h : ∀ e ∈ l, 0 ≤ ctE e) (he : e ∈ l) : ctE e ≤ sumE l := by
  obtain ⟨i, hi⟩ := List.mem_iff_getElem?.1 he
  obtain ⟨_, h2, h3, _, _⟩ := without_at hi
  have := sumE_nonneg fun x hx => h x (h3 x hx)
  omega
theorem GoodT.ct0 (G : GoodT t) : ∀ e ∈ t.l, 0 ≤ ctE e := fun e he => by obtain ⟨h1, h2, _, _⟩ := G.pos e he; unfold ctE; omega
/-- All numbers are in range. -/
theorem GoodT.bd (G : GoodT t) (he : e ∈ t.l) : 0 ≤ e.2.1 ∧ 0 ≤ e.2.2 ∧ e.2.1 + e.2.2 ≤ 9223372036854775808 ∧ e.2.1 + e.2.2 ≤ t.sum := by
  obtain ⟨h1, h2, _, _⟩ := G.pos e he
  have h3 := sumE_ge G.ct0 he
  have h4 := G.most
  have h5 := G.top
  have h6 := Int.mul_nonneg (show (0 : Int) ≤ ((t.m - t.l.length : Nat) : Int) by omega) G.base0
  unfold ctE at h3
  omega
theorem GoodT.sum0 (G : GoodT t) : 0 ≤ t.sum := by
  have h4 := G.most
  have h6 := Int.mul_nonneg (show (0 : Int) ≤ ((t.m - t.l.length : Nat) : Int) by omega) G.base0
  have := sumE_nonneg G.ct0
  omega
theorem sumE_base (h : ∀ e ∈ l, t.base ≤ ctE e) : (l.length : Int) * t.base ≤ sumE l := by
  induction l with
  | nil => simp [sumE]
  | cons x l ih =>
    have h1 := h x (by simp)
    have h2 := ih fun e he => h e (by simp [he])
    show ((l.length + 1 : Nat) : Int) * t.base ≤ ctE x + sumE l
    rw [Int.natCast_add, Int.add_mul]
    omega
/-- m times Base is at most Total. -/
theorem GoodT.mbase (G : GoodT t) : (t.m : Int) * t.base ≤ t.sum := by
  have h1 := sumE_base (t := t) (l := t.l) fun e he => (G.pos e he).2.2.1
  have h2 := G.most
  have h3 : (t.m : Int) * t.base = ((t.m - t.l.length : Nat) : Int) * t.base + (t.l.length : Int) * t.base := by
    rw [← Int.add_mul]
    congr 1
    have := G.len
    omega
  omega
theorem GoodT.base_le (G : GoodT t) : t.base ≤ t.sum := by
  have h1 := G.mbase
  have h2 := G.m1
  have h3 : t.base ≤ (t.m : Int) * t.base := by
    have := Int.mul_le_mul_of_nonneg_right (show (1 : Int) ≤ (t.m : Int) by omega) G.base0
    omega
  omega
theorem newT_good {m : Nat} (h : 1 ≤ m ∧ m ≤ 64) : GoodT (newT m) := ⟨h, Nat.zero_le _, List.nodup_nil, fun e he => by simp [newT] at he, Int.le_refl _, by simp [newT, sumE], by simp [newT]⟩
end
end Go.Proofs.Ytbdafhephmoedaa
