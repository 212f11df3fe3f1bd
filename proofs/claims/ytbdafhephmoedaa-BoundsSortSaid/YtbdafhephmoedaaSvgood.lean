/- Tables (Space-Saving): what stays true under Add, Take and Swap; what is known of the weights if weights are only added. Conditions: none beyond those typed. -/
import Derived.Test.YtbdafhephmoedaaSvmath
namespace Go.Proofs.Ytbdafhephmoedaa
set_option linter.unusedVariables false
set_option linter.unusedSimpArgs false

section
variable {l : List En} {k : ByteArray} {i j : Nat} {e : En} {t : TSt} {w : Int}
theorem fits_le {s w : Int} (h : fitsB s w = true) : s + w ≤ 9223372036854775808 := of_decide_eq_true h
/-- An entry is replaced by one with a count that is not less than Base. -/
theorem nd_snoc (hn : (l.map Prod.fst).Nodup) (hk : ∀ x ∈ l, x.1 ≠ e.1) : ((l ++ [e]).map Prod.fst).Nodup := by
  rw [List.map_append]
  refine List.nodup_append.2 ⟨hn, by simp, fun a ha b hb hab => ?_⟩
  obtain ⟨x, hx, rfl⟩ := List.mem_map.1 ha
  simp at hb
  exact hk x hx (by rw [hab, hb])
/-- What Add does, by cases. -/
theorem addS_form (h : k.size = 0) : t.addS k w = (3, t) := if_pos h
theorem addS_zero (h : k.size ≠ 0) (hw : w = 0) : t.addS k w = (1, t) := by unfold TSt.addS; rw [if_neg h, if_pos hw]
theorem addS_over (h : k.size ≠ 0) (hw : w ≠ 0) (hf : fitsB t.sum w = false) : t.addS k w = (12, t) := by unfold TSt.addS; rw [if_neg h, if_neg hw, if_pos hf]
theorem addS_own (h : k.size ≠ 0) (hw : w ≠ 0) (hf : fitsB t.sum w = true) (hp : placeE t.l k = some i) (hi : t.l[i]? = some e) (he : e.1 = k) : t.addS k w = (0, { t with sum := t.sum + w, l := withoutE t.l i ++ [(e.1, e.2.1 + w, e.2.2)] }) := by
  unfold TSt.addS
  rw [if_neg h, if_neg hw, if_neg (by rw [hf]; exact Bool.noConfusion), hp]
  show (0, ({ t with sum := t.sum + w, l := withoutE t.l i ++ [(k, ((t.l[i]?).map fun e => e.2.1).getD 0 + w, ((t.l[i]?).map fun e => e.2.2).getD 0)] } : TSt)) = _
  rw [hi, he]; rfl
theorem addS_room (h : k.size ≠ 0) (hw : w ≠ 0) (hf : fitsB t.sum w = true) (hp : placeE t.l k = none) (hl : t.l.length ≠ t.m) : t.addS k w = (0, { t with sum := t.sum + w, l := t.l ++ [(k, w, t.base)] }) := by
  unfold TSt.addS
  rw [if_neg h, if_neg hw, if_neg (by rw [hf]; exact Bool.noConfusion), hp]
  exact if_neg hl
theorem addS_full (h : k.size ≠ 0) (hw : w ≠ 0) (hf : fitsB t.sum w = true) (hp : placeE t.l k = none) (hl : t.l.length = t.m) (hi : t.l[leastE t.l]? = some e) : t.addS k w = (0, { t with sum := t.sum + w, base := ctE e, l := withoutE t.l (leastE t.l) ++ [(k, w, ctE e)] }) := by
  unfold TSt.addS
  rw [if_neg h, if_neg hw, if_neg (by rw [hf]; exact Bool.noConfusion), hp]
  show (if t.l.length = t.m then _ else _) = _
  rw [if_pos hl, ctAt_at hi]
theorem GoodT.addS (G : GoodT t) (k : ByteArray) (hw : 0 ≤ w) : GoodT (t.addS k w).2 := by
  by_cases h : k.size = 0
  · rw [addS_form h]; exact G
  by_cases h0 : w = 0
  · rw [addS_zero h h0]; exact G
  cases hf : fitsB t.sum w with
  | false => rw [addS_over h h0 hf]; exact G
  | true =>
    have hsum := fits_le hf
    have hmost := G.most
    cases hp : placeE t.l k with
    | some i =>
      obtain ⟨e, hi, he, hil⟩ := placeE_some hp
      rw [addS_own h h0 hf hp hi he]
      obtain ⟨a1, a2, a3, a4, a5⟩ := without_at hi
      obtain ⟨a6, a7⟩ := a4 G.nd
      obtain ⟨p1, p2, p3, p4⟩ := G.pos e (List.mem_of_getElem? hi)
      have hlen : (withoutE t.l i ++ [(e.1, e.2.1 + w, e.2.2)]).length = t.l.length := by simp; omega
      refine ⟨G.m1, by rw [hlen]; exact G.len, nd_snoc a6 a7, fun x hx => ?_, G.base0, ?_, hsum⟩
      · rcases List.mem_append.1 hx with h1 | h1
        · exact G.pos x (a3 x h1)
        · rw [List.mem_singleton.1 h1]
          unfold ctE at p3 ⊢
          exact ⟨by show 0 ≤ e.2.1 + w; omega, p2, by show t.base ≤ e.2.1 + w + e.2.2; omega, p4⟩
      · show ((t.m - (withoutE t.l i ++ [(e.1, e.2.1 + w, e.2.2)]).length : Nat) : Int) * t.base + sumE (withoutE t.l i ++ [(e.1, e.2.1 + w, e.2.2)]) ≤ t.sum + w
        rw [hlen, sumE_app]
        show _ + (sumE (withoutE t.l i) + ((e.2.1 + w + e.2.2) + 0)) ≤ _
        unfold ctE at a2
        omega
    | none =>
      have hno := placeE_none hp
      have hks : 0 < k.size := by omega
      by_cases hl : t.l.length = t.m
      · have hm := G.m1
        obtain ⟨e, hi, hmin, hil⟩ := least_spec (l := t.l) (by omega)
        rw [addS_full h h0 hf hp hl hi]
        obtain ⟨a1, a2, a3, a4, a5⟩ := without_at hi
        obtain ⟨a6, a7⟩ := a4 G.nd
        obtain ⟨p1, p2, p3, p4⟩ := G.pos e (List.mem_of_getElem? hi)
        have hlen : (withoutE t.l (leastE t.l) ++ [(k, w, ctE e)]).length = t.m := by simp; omega
        have hc0 := G.ct0 e (List.mem_of_getElem? hi)
        refine ⟨G.m1, by rw [hlen]; exact Nat.le_refl _, nd_snoc a6 fun x hx => hno x (a3 x hx), fun x hx => ?_, hc0, ?_, hsum⟩
        · rcases List.mem_append.1 hx with h1 | h1
          · obtain ⟨q1, q2, _, q4⟩ := G.pos x (a3 x h1)
            exact ⟨q1, q2, hmin x (a3 x h1), q4⟩
          · rw [List.mem_singleton.1 h1]
            exact ⟨hw, hc0, by show ctE e ≤ w + ctE e; omega, hks⟩
        · show ((t.m - (withoutE t.l (leastE t.l) ++ [(k, w, ctE e)]).length : Nat) : Int) * ctE e + sumE (withoutE t.l (leastE t.l) ++ [(k, w, ctE e)]) ≤ t.sum + w
          rw [hlen, sumE_app, Nat.sub_self]
          show ((0 : Nat) : Int) * _ + (sumE (withoutE t.l (leastE t.l)) + ((w + ctE e) + 0)) ≤ _
          rw [hl, Nat.sub_self] at hmost
          simp at hmost ⊢
          omega
      · rw [addS_room h h0 hf hp hl]
        have hle := G.len
        refine ⟨G.m1, by show (t.l ++ [(k, w, t.base)]).length ≤ t.m; simp; omega, nd_snoc G.nd hno, fun x hx => ?_, G.base0, ?_, hsum⟩
        · rcases List.mem_append.1 hx with h1 | h1
          · exact G.pos x h1
          · rw [List.mem_singleton.1 h1]
            exact ⟨hw, G.base0, by show t.base ≤ w + t.base; omega, hks⟩
        · show ((t.m - (t.l ++ [(k, w, t.base)]).length : Nat) : Int) * t.base + sumE (t.l ++ [(k, w, t.base)]) ≤ t.sum + w
          rw [sumE_app, List.length_append, List.length_singleton]
          show _ + (sumE t.l + ((w + t.base) + 0)) ≤ _
          have e1 : ((t.m - t.l.length : Nat) : Int) * t.base = ((t.m - (t.l.length + 1) : Nat) : Int) * t.base + t.base := by
            rw [show t.m - t.l.length = (t.m - (t.l.length + 1)) + 1 by omega, Int.natCast_add, Int.add_mul]; omega
          omega
theorem GoodT.take (G : GoodT t) (k : ByteArray) : GoodT (t.take k) := by
  unfold TSt.take
  cases hp : placeE t.l k with
  | none => exact G
  | some i =>
    obtain ⟨e, hi, he, hil⟩ := placeE_some hp
    obtain ⟨a1, a2, a3, a4, a5⟩ := without_at hi
    have hmost := G.most
    have hle := G.len
    obtain ⟨p1, p2, p3, p4⟩ := G.pos e (List.mem_of_getElem? hi)
    refine ⟨G.m1, by show (withoutE t.l i).length ≤ t.m; omega, (a4 G.nd).1, fun x hx => G.pos x (a3 x hx), G.base0, ?_, G.top⟩
    show ((t.m - (withoutE t.l i).length : Nat) : Int) * t.base + sumE (withoutE t.l i) ≤ t.sum
    have e1 : ((t.m - (withoutE t.l i).length : Nat) : Int) * t.base = ((t.m - t.l.length : Nat) : Int) * t.base + t.base := by
      rw [show t.m - (withoutE t.l i).length = (t.m - t.l.length) + 1 by omega, Int.natCast_add, Int.add_mul]; omega
    omega
theorem swapE_ct {base : Int} (h1 : 0 ≤ e.2.1) (h2 : 0 ≤ e.2.2) : base ≤ ctE (swapE base e) ∧ 0 ≤ (swapE base e).2.2 ∧ e.2.2 ≤ (swapE base e).2.2 ∧ (ctE (swapE base e) = ctE e ∨ ctE (swapE base e) = base) := by
  unfold swapE ctE
  by_cases h : e.2.1 < base ∧ e.2.2 < base - e.2.1
  · rw [if_pos h]
    exact ⟨by show base ≤ e.2.1 + (base - e.2.1); omega, by show 0 ≤ base - e.2.1; omega, by show e.2.2 ≤ base - e.2.1; omega, .inr (by show e.2.1 + (base - e.2.1) = base; omega)⟩
  · rw [if_neg h]
    exact ⟨by show base ≤ e.2.1 + e.2.2; omega, h2, Int.le_refl _, .inl rfl⟩
theorem GoodT.swapS (G : GoodT t) (k : ByteArray) (h1 : 0 ≤ e.2.1) (h2 : 0 ≤ e.2.2) : GoodT (t.swapS k e).2 := by
  unfold TSt.swapS
  cases hp : placeE t.l k with
  | none => exact G
  | some i =>
    obtain ⟨x, hi, hx, hil⟩ := placeE_some hp
    show GoodT (if e.1.size = 0 then _ else _ : (En × Int) × TSt).2
    by_cases c1 : e.1.size = 0
    · rw [if_pos c1]; exact G
    rw [if_neg c1]
    by_cases c2 : (placeE t.l e.1).isSome = true
    · rw [if_pos c2]; exact G
    rw [if_neg c2]
    by_cases c3 : ¬ (e.2.1 ≤ ctAt t.l i ∧ e.2.2 ≤ ctAt t.l i - e.2.1)
    · rw [if_pos c3]; exact G
    rw [if_neg c3]
    have c3' := Decidable.not_not.1 c3
    rw [ctAt_at hi] at c3'
    obtain ⟨a1, a2, a3, a4, a5⟩ := without_at hi
    have hmost := G.most
    obtain ⟨p1, p2, p3, p4⟩ := G.pos x (List.mem_of_getElem? hi)
    obtain ⟨s1, s2, _, s3⟩ := swapE_ct (base := t.base) h1 h2
    have hno : placeE t.l e.1 = none := by
      cases h : placeE t.l e.1 with
      | none => rfl
      | some j => rw [h] at c2; exact absurd rfl c2
    have hlen : (withoutE t.l i ++ [swapE t.base e]).length = t.l.length := by simp; omega
    refine ⟨G.m1, by show (withoutE t.l i ++ [swapE t.base e]).length ≤ t.m; rw [hlen]; exact G.len, nd_snoc (a4 G.nd).1 fun y hy => placeE_none hno y (a3 y hy), fun y hy => ?_, G.base0, ?_, G.top⟩
    · rcases List.mem_append.1 hy with h | h
      · exact G.pos y (a3 y h)
      · rw [List.mem_singleton.1 h]
        exact ⟨h1, s2, s1, by show 0 < e.1.size; omega⟩
    · show ((t.m - (withoutE t.l i ++ [swapE t.base e]).length : Nat) : Int) * t.base + sumE (withoutE t.l i ++ [swapE t.base e]) ≤ t.sum
      rw [hlen, sumE_app]
      show _ + (sumE (withoutE t.l i) + (ctE (swapE t.base e) + 0)) ≤ _
      have : ctE (swapE t.base e) ≤ ctE x := by
        rcases s3 with h | h
        · rw [h]; unfold ctE at c3' ⊢; omega
        · rw [h]; exact p3
      omega
/-- The weight of a key in a list of additions. -/
def freqE : List (ByteArray × Int) → ByteArray → Int
  | [], _ => 0
  | a :: l, k => freqE l k + if a.1 = k then a.2 else 0
/-- Weights were only added; the last one first. -/
structure OnlyE (t : TSt) (h : List (ByteArray × Int)) : Prop where
  good : GoodT t
  low : t.l.length < t.m → t.base = 0
  all : sumE t.l = t.sum
  pos : ∀ a ∈ h, 0 ≤ a.2
  in_ : ∀ e ∈ t.l, e.2.1 ≤ freqE h e.1 ∧ freqE h e.1 ≤ ctE e
  out : ∀ k, (∀ e ∈ t.l, e.1 ≠ k) → freqE h k ≤ t.base
theorem freq_pos : ∀ {h : List (ByteArray × Int)}, (∀ a ∈ h, 0 ≤ a.2) → ∀ k, 0 ≤ freqE h k
  | [], _, _ => Int.le_refl _
  | a :: h, hh, k => by
    have h1 := freq_pos (h := h) (fun b hb => hh b (by simp [hb])) k
    have h2 := hh a (by simp)
    show 0 ≤ freqE h k + if a.1 = k then a.2 else 0
    split <;> omega
theorem OnlyE.new {m : Nat} (hm : 1 ≤ m ∧ m ≤ 64) : OnlyE (newT m) [] := ⟨newT_good hm, fun _ => rfl, rfl, fun a ha => by simp at ha, fun e he => by simp [newT] at he, fun k _ => Int.le_refl _⟩
theorem freq_cons {h : List (ByteArray × Int)} {a : ByteArray × Int} {k : ByteArray} : freqE (a :: h) k = freqE h k + if a.1 = k then a.2 else 0 := rfl
theorem OnlyE.addS {h : List (ByteArray × Int)} (O : OnlyE t h) (hk : k.size ≠ 0) (hw : 0 < w) (hf : fitsB t.sum w = true) : (t.addS k w).1 = 0 ∧ OnlyE (t.addS k w).2 ((k, w) :: h) ∧ (t.addS k w).2.sum = t.sum + w ∧ (t.addS k w).2.m = t.m := by
  have G := O.good
  have G' := G.addS k (Int.le_of_lt hw)
  have hw0 : w ≠ 0 := by omega
  have hpos : ∀ a ∈ (k, w) :: h, 0 ≤ a.2 := fun a ha => by
    rcases List.mem_cons.1 ha with rfl | ha
    · exact Int.le_of_lt hw
    · exact O.pos a ha
  cases hp : placeE t.l k with
  | some i =>
    obtain ⟨e, hi, he, hil⟩ := placeE_some hp
    have hA := addS_own hk hw0 hf hp hi he
    rw [hA] at G' ⊢
    obtain ⟨a1, a2, a3, a4, a5⟩ := without_at hi
    obtain ⟨a6, a7⟩ := a4 G.nd
    have hlen : (withoutE t.l i ++ [(e.1, e.2.1 + w, e.2.2)]).length = t.l.length := by simp; omega
    obtain ⟨i1, i2⟩ := O.in_ e (List.mem_of_getElem? hi)
    refine ⟨rfl, ⟨G', fun h1 => O.low (by rw [← hlen]; exact h1), ?_, hpos, fun x hx => ?_, fun k' hk' => ?_⟩, rfl, rfl⟩
    · show sumE (withoutE t.l i ++ [(e.1, e.2.1 + w, e.2.2)]) = t.sum + w
      rw [sumE_app]
      show sumE (withoutE t.l i) + ((e.2.1 + w + e.2.2) + 0) = _
      have := O.all
      unfold ctE at a2
      omega
    · rw [freq_cons]
      rcases List.mem_append.1 hx with h1 | h1
      · rw [if_neg (fun hc => a7 x h1 (by rw [he]; exact hc.symm))]
        have := O.in_ x (a3 x h1)
        omega
      · rw [List.mem_singleton.1 h1]
        show e.2.1 + w ≤ freqE h e.1 + (if k = e.1 then w else 0) ∧ freqE h e.1 + (if k = e.1 then w else 0) ≤ e.2.1 + w + e.2.2
        rw [if_pos he.symm]
        unfold ctE at i2
        omega
    · rw [freq_cons, if_neg (fun hc => hk' (e.1, e.2.1 + w, e.2.2) (by simp) (by show e.1 = k'; rw [he]; exact hc))]
      have := O.out k' fun x hx => by
        rcases a5 x hx with h1 | h1
        · exact hk' x (by simp [h1])
        · rw [h1]; exact hk' (e.1, e.2.1 + w, e.2.2) (by simp)
      show _ + 0 ≤ t.base
      omega
  | none =>
    have hno := placeE_none hp
    have hfk := O.out k hno
    by_cases hl : t.l.length = t.m
    · have hm := G.m1
      obtain ⟨e, hi, hmin, hil⟩ := least_spec (l := t.l) (by omega)
      have hA := addS_full hk hw0 hf hp hl hi
      rw [hA] at G' ⊢
      obtain ⟨a1, a2, a3, a4, a5⟩ := without_at hi
      obtain ⟨a6, a7⟩ := a4 G.nd
      obtain ⟨p1, p2, p3, p4⟩ := G.pos e (List.mem_of_getElem? hi)
      have hlen : (withoutE t.l (leastE t.l) ++ [(k, w, ctE e)]).length = t.m := by simp; omega
      refine ⟨rfl, ⟨G', fun h1 => ?_, ?_, hpos, fun x hx => ?_, fun k' hk' => ?_⟩, rfl, rfl⟩
      · exfalso
        have h1' : (withoutE t.l (leastE t.l) ++ [(k, w, ctE e)]).length < t.m := h1
        omega
      · show sumE (withoutE t.l (leastE t.l) ++ [(k, w, ctE e)]) = t.sum + w
        rw [sumE_app]
        show sumE (withoutE t.l (leastE t.l)) + ((w + ctE e) + 0) = _
        have := O.all
        omega
      · rw [freq_cons]
        rcases List.mem_append.1 hx with h1 | h1
        · rw [if_neg (fun hc => hno x (a3 x h1) hc.symm)]
          have := O.in_ x (a3 x h1)
          omega
        · rw [List.mem_singleton.1 h1]
          show w ≤ freqE h k + (if k = k then w else 0) ∧ freqE h k + (if k = k then w else 0) ≤ w + ctE e
          rw [if_pos rfl]
          have h0 : 0 ≤ freqE h k := freq_pos O.pos k
          omega
      · rw [freq_cons, if_neg (fun hc => hk' (k, w, ctE e) (by simp) hc)]
        show freqE h k' + 0 ≤ ctE e
        by_cases hke : k' = e.1
        · subst hke
          have := (O.in_ e (List.mem_of_getElem? hi)).2
          omega
        · have := O.out k' fun x hx => by
            rcases a5 x hx with h1 | h1
            · exact hk' x (by simp [h1])
            · rw [h1]; exact fun hc => hke hc.symm
          omega
    · have hA := addS_room hk hw0 hf hp hl
      rw [hA] at G' ⊢
      have hle := G.len
      have hb0 := O.low (by omega)
      refine ⟨rfl, ⟨G', fun _ => hb0, ?_, hpos, fun x hx => ?_, fun k' hk' => ?_⟩, rfl, rfl⟩
      · show sumE (t.l ++ [(k, w, t.base)]) = t.sum + w
        rw [sumE_app]
        show sumE t.l + ((w + t.base) + 0) = _
        have := O.all
        omega
      · rw [freq_cons]
        rcases List.mem_append.1 hx with h1 | h1
        · rw [if_neg (fun hc => hno x h1 hc.symm)]
          have := O.in_ x h1
          omega
        · rw [List.mem_singleton.1 h1]
          show w ≤ freqE h k + (if k = k then w else 0) ∧ freqE h k + (if k = k then w else 0) ≤ w + t.base
          rw [if_pos rfl]
          have h0 : 0 ≤ freqE h k := freq_pos O.pos k
          omega
      · rw [freq_cons, if_neg (fun hc => hk' (k, w, t.base) (by simp) hc)]
        have := O.out k' fun x hx => hk' x (by simp [hx])
        show _ + 0 ≤ t.base
        omega
end
end Go.Proofs.Ytbdafhephmoedaa
