/- The plain mathematics of exact counters: Put, Add, Get, Take, Least, and what stays true. Conditions: none beyond those typed. -/
import Derived.Test.YtjkomnjkolggnaaSvsrt
namespace Go.Proofs.Ytjkomnjkolggnaa
set_option linter.unusedVariables false
set_option linter.unusedSimpArgs false

structure ExSt where
  n : Nat
  l : List En
def topX : Int := 9223372036854775808
def roomX (e : En) : Bool := decide (e.2.1 ≤ topX ∧ e.2.2 ≤ topX - e.2.1)
def ExSt.put (t : ExSt) (e : En) : Int × ExSt :=
  if e.1.size = 0 then (3, t) else if (placeE t.l e.1).isSome = true then (10, t) else if t.l.length = t.n then (7, t) else
  if roomX e = false then (12, t) else (0, { t with l := sortE (t.l ++ [e]) })
def moreE (e : En) (w : Int) : En := (e.1, e.2.1 + w, e.2.2)
def bumpE (l : List En) (i : Nat) (w : Int) : List En := match l[i]? with | none => l | some e => l.set i (moreE e w)
def ExSt.add (t : ExSt) (k : ByteArray) (w : Int) : Int × ExSt := match placeE t.l k with
  | none => (8, t)
  | some i => if fitsB (ctAt t.l i) w = false then (12, t) else (0, { t with l := bumpE t.l i w })
def ExSt.get (t : ExSt) (k : ByteArray) : En × Bool := match placeE t.l k with | none => (zeroE, false) | some i => ((t.l[i]?).getD zeroE, true)
def ExSt.take (t : ExSt) (k : ByteArray) : ExSt := match placeE t.l k with | none => t | some i => { t with l := withoutE t.l i }
/-- The last of the least among the first. -/
def lastTo (l : List En) : Nat → Nat
  | 0 => 0
  | i + 1 => if ctAt l i ≤ ctAt l (lastTo l i) then i else lastTo l i
def ExSt.least (t : ExSt) : En × Bool := if t.l.length = 0 then (zeroE, false) else ((t.l[lastTo t.l t.l.length]?).getD zeroE, true)
def newX (n : Nat) : ExSt := ⟨n, []⟩
structure GoodX (t : ExSt) : Prop where
  n1 : t.n ≤ 32
  len : t.l.length ≤ t.n
  nd : (t.l.map Prod.fst).Nodup
  srt : Srt t.l
  pos : ∀ e ∈ t.l, 0 ≤ e.2.1 ∧ 0 ≤ e.2.2 ∧ ctE e ≤ topX ∧ 0 < e.1.size
section
variable {l : List En} {k : ByteArray} {i j : Nat} {e : En} {t : ExSt} {w : Int}
theorem newX_good {n : Nat} (h : n ≤ 32) : GoodX (newX n) := ⟨h, Nat.zero_le _, List.nodup_nil, List.Pairwise.nil, fun e he => by cases he⟩
theorem putX_form (h : e.1.size = 0) : t.put e = (3, t) := if_pos h
theorem putX_dup (h : e.1.size ≠ 0) (hp : placeE t.l e.1 = some i) : t.put e = (10, t) := by unfold ExSt.put; rw [if_neg h, if_pos (by rw [hp]; rfl)]
theorem putX_full (h : e.1.size ≠ 0) (hp : placeE t.l e.1 = none) (hl : t.l.length = t.n) : t.put e = (7, t) := by unfold ExSt.put; rw [if_neg h, if_neg (by rw [hp]; simp), if_pos hl]
theorem putX_over (h : e.1.size ≠ 0) (hp : placeE t.l e.1 = none) (hl : t.l.length ≠ t.n) (hr : roomX e = false) : t.put e = (12, t) := by unfold ExSt.put; rw [if_neg h, if_neg (by rw [hp]; simp), if_neg hl, if_pos hr]
theorem putX_ok (h : e.1.size ≠ 0) (hp : placeE t.l e.1 = none) (hl : t.l.length ≠ t.n) (hr : roomX e = true) : t.put e = (0, { t with l := sortE (t.l ++ [e]) }) := by unfold ExSt.put; rw [if_neg h, if_neg (by rw [hp]; simp), if_neg hl, if_neg (by rw [hr]; exact Bool.noConfusion)]
theorem addX_none (hp : placeE t.l k = none) : t.add k w = (8, t) := by unfold ExSt.add; rw [hp]
theorem addX_over (hp : placeE t.l k = some i) (hi : t.l[i]? = some e) (hf : fitsB (ctE e) w = false) : t.add k w = (12, t) := by unfold ExSt.add; rw [hp]; show (if fitsB (ctAt t.l i) w = false then _ else _) = _; rw [ctAt_at hi, if_pos hf]
theorem addX_ok (hp : placeE t.l k = some i) (hi : t.l[i]? = some e) (hf : fitsB (ctE e) w = true) : t.add k w = (0, { t with l := t.l.set i (moreE e w) }) := by
  unfold ExSt.add; rw [hp]; show (if fitsB (ctAt t.l i) w = false then _ else (0, ({ t with l := bumpE t.l i w } : ExSt))) = _
  rw [ctAt_at hi, if_neg (by rw [hf]; exact Bool.noConfusion)]
  unfold bumpE; rw [hi]
theorem getX_some (hp : placeE t.l k = some i) (hi : t.l[i]? = some e) : t.get k = (e, true) := by unfold ExSt.get; rw [hp]; show ((t.l[i]?).getD zeroE, true) = _; rw [hi]; rfl
theorem getX_none (hp : placeE t.l k = none) : t.get k = (zeroE, false) := by unfold ExSt.get; rw [hp]
theorem GoodX.ct (G : GoodX t) (he : e ∈ t.l) : 0 ≤ e.2.1 ∧ 0 ≤ e.2.2 ∧ e.2.1 ≤ topX ∧ e.2.2 ≤ topX ∧ e.2.1 + e.2.2 ≤ topX ∧ 0 < e.1.size := by
  obtain ⟨h1, h2, h3, h4⟩ := G.pos e he
  unfold ctE at h3
  exact ⟨h1, h2, by omega, by omega, h3, h4⟩
theorem GoodX.put (G : GoodX t) (h1 : 0 ≤ e.2.1) (h2 : 0 ≤ e.2.2) : GoodX (t.put e).2 := by
  by_cases h : e.1.size = 0
  · rw [putX_form h]; exact G
  cases hp : placeE t.l e.1 with
  | some i => rw [putX_dup h hp]; exact G
  | none =>
    by_cases hl : t.l.length = t.n
    · rw [putX_full h hp hl]; exact G
    cases hr : roomX e with
    | false => rw [putX_over h hp hl hr]; exact G
    | true =>
      rw [putX_ok h hp hl hr]
      have hno := placeE_none hp
      have hn1 : ((t.l ++ [e]).map Prod.fst).Nodup := by
        rw [List.map_append]
        refine List.nodup_append.2 ⟨G.nd, by simp, fun a ha b hb hab => ?_⟩
        obtain ⟨x, hx, rfl⟩ := List.mem_map.1 ha
        simp at hb
        exact hno x hx (by rw [hab, hb])
      have hP := sortE_perm (t.l ++ [e])
      have hle := G.len
      have hb : e.2.1 ≤ topX ∧ e.2.2 ≤ topX - e.2.1 := of_decide_eq_true hr
      refine ⟨G.n1, by show (sortE (t.l ++ [e])).length ≤ t.n; rw [hP.length_eq]; simp; omega, (hP.map _).nodup_iff.2 hn1, sortE_srt hn1, fun x hx => ?_⟩
      rcases List.mem_append.1 (hP.mem_iff.1 hx) with h3 | h3
      · exact G.pos x h3
      · rw [List.mem_singleton.1 h3]
        exact ⟨h1, h2, by unfold ctE; omega, by omega⟩
theorem bump_keys (hi : l[i]? = some e) (w : Int) : (l.set i (moreE e w)).map Prod.fst = l.map Prod.fst := by
  rw [List.map_set]
  obtain ⟨hil, hie⟩ := List.getElem?_eq_some_iff.1 hi
  refine List.ext_getElem? fun j => ?_
  rw [List.getElem?_set]
  split
  · rename_i h; subst h
    rw [List.getElem?_map, hi]; simp [hil, moreE]
  · rfl
theorem GoodX.set (G : GoodX t) (hi : t.l[i]? = some e) (hw : 0 ≤ w) (hf : fitsB (ctE e) w = true) : GoodX { t with l := t.l.set i (moreE e w) } := by
  have hf' : ctE e + w ≤ topX := of_decide_eq_true hf
  have hk := bump_keys hi w
  have h0 := G.pos e (List.mem_of_getElem? hi)
  refine ⟨G.n1, by show (t.l.set i _).length ≤ t.n; rw [List.length_set]; exact G.len, by show ((t.l.set i _).map Prod.fst).Nodup; rw [hk]; exact G.nd, ?_, fun x hx => ?_⟩
  · have h1 : (t.l.map Prod.fst).Pairwise fun a b => sless a b = true := List.pairwise_map.2 G.srt
    rw [← hk] at h1
    exact List.pairwise_map.1 h1
  · rcases List.mem_or_eq_of_mem_set hx with h1 | h1
    · exact G.pos x h1
    · subst h1
      exact ⟨by show 0 ≤ e.2.1 + w; omega, h0.2.1, by show e.2.1 + w + e.2.2 ≤ topX; unfold ctE at hf'; omega, h0.2.2.2⟩
theorem GoodX.add (G : GoodX t) (k : ByteArray) (hw : 0 ≤ w) : GoodX (t.add k w).2 := by
  cases hp : placeE t.l k with
  | none => rw [addX_none hp]; exact G
  | some i =>
    obtain ⟨e, hi, _, _⟩ := placeE_some hp
    cases hf : fitsB (ctE e) w with
    | false => rw [addX_over hp hi hf]; exact G
    | true => rw [addX_ok hp hi hf]; exact G.set hi hw hf
theorem without_sub : (withoutE l i).Sublist l := by
  unfold withoutE
  have h1 : l.take i ++ l.drop i = l := List.take_append_drop i l
  conv => rhs; rw [← h1]
  refine List.Sublist.append (List.Sublist.refl _) ?_
  rw [show l.drop (i + 1) = (l.drop i).drop 1 by rw [List.drop_drop]]
  exact List.drop_sublist _ _
theorem GoodX.take (G : GoodX t) (k : ByteArray) : GoodX (t.take k) := by
  unfold ExSt.take
  cases hp : placeE t.l k with
  | none => exact G
  | some i =>
    obtain ⟨e, hi, he, hil⟩ := placeE_some hp
    obtain ⟨a1, _, a3, a4, _⟩ := without_at hi
    have hle := G.len
    exact ⟨G.n1, by show (withoutE t.l i).length ≤ t.n; omega, (a4 G.nd).1, List.Pairwise.sublist without_sub G.srt, fun x hx => G.pos x (a3 x hx)⟩
theorem lastTo_spec : ∀ i, 0 < i → i ≤ l.length → lastTo l i < i ∧ (∀ j, j < i → ctAt l (lastTo l i) ≤ ctAt l j) ∧ ∀ j, j < i → lastTo l i < j → ctAt l (lastTo l i) < ctAt l j
  | 0, h, _ => absurd h (Nat.lt_irrefl 0)
  | 1, _, _ => by
    have h0 : lastTo l 1 = 0 := by simp [lastTo]
    rw [h0]
    exact ⟨by omega, fun j hj => by rw [show j = 0 by omega]; exact Int.le_refl _, fun j hj h => by omega⟩
  | i + 2, _, hl => by
    obtain ⟨h1, h2, h3⟩ := lastTo_spec (i + 1) (by omega) (by omega)
    have e0 : lastTo l (i + 2) = if ctAt l (i + 1) ≤ ctAt l (lastTo l (i + 1)) then i + 1 else lastTo l (i + 1) := rfl
    rw [e0]
    by_cases hc : ctAt l (i + 1) ≤ ctAt l (lastTo l (i + 1))
    · rw [if_pos hc]
      exact ⟨by omega, fun j hj => by
        rcases Nat.lt_or_ge j (i + 1) with h | h
        · have := h2 j h; omega
        · rw [show j = i + 1 by omega]; exact Int.le_refl _, fun j hj h => by omega⟩
    · rw [if_neg hc]
      exact ⟨by omega, fun j hj => by
        rcases Nat.lt_or_ge j (i + 1) with h | h
        · exact h2 j h
        · rw [show j = i + 1 by omega]; omega, fun j hj h => by
        rcases Nat.lt_or_ge j (i + 1) with h4 | h4
        · exact h3 j h4 h
        · rw [show j = i + 1 by omega]; omega⟩
theorem lastTo_at (h : 0 < l.length) : ∃ e, l[lastTo l l.length]? = some e ∧ lastTo l l.length < l.length ∧ (∀ x ∈ l, ctE e ≤ ctE x) ∧ ∀ (j : Nat) (x : En), l[j]? = some x → lastTo l l.length < j → ctE e < ctE x := by
  obtain ⟨h1, h2, h3⟩ := lastTo_spec l.length h (Nat.le_refl _)
  have he := List.getElem?_eq_getElem (show lastTo l l.length < l.length from h1)
  refine ⟨_, he, h1, fun x hx => ?_, fun j x hj hl => ?_⟩
  · obtain ⟨j, hj⟩ := List.mem_iff_getElem?.1 hx
    have := h2 j (List.getElem?_eq_some_iff.1 hj).1
    rw [ctAt_at hj, ctAt_at he] at this
    exact this
  · have := h3 j (List.getElem?_eq_some_iff.1 hj).1 hl
    rw [ctAt_at hj, ctAt_at he] at this
    exact this
theorem leastX_none (h : t.l.length = 0) : t.least = (zeroE, false) := if_pos h
theorem leastX_some (h : t.l.length ≠ 0) (he : t.l[lastTo t.l t.l.length]? = some e) : t.least = (e, true) := by unfold ExSt.least; rw [if_neg h, he]; rfl
end
end Go.Proofs.Ytjkomnjkolggnaa
