/- The plain mathematics of tables (Misra-Gries): numbers of keys, what was deducted. Conditions: none beyond those typed. -/
import Derived.Test.YtgkokglngpbamaaZ01
namespace Go.Proofs.Ytgkokglngpbamaa
set_option linter.unusedVariables false
set_option linter.unusedSimpArgs false

/-- The lesser one of w and the least number. -/
def minO (w : Int) : List En → Int
  | [] => w
  | e :: l => minO (min w e.2.1) l
/-- Every number is decreased by d; those that are 0 then go. -/
def dedE (d : Int) : List En → List En
  | [] => []
  | e :: l => if 0 < e.2.1 - d then (e.1, e.2.1 - d, e.2.2) :: dedE d l else dedE d l
def sumO : List En → Int
  | [] => 0
  | e :: l => e.2.1 + sumO l
def fullF (t : TSt) (k : ByteArray) (w : Int) : TSt :=
  { t with sum := t.sum + w, base := t.base + minO w t.l, l := dedE (minO w t.l) t.l ++ if 0 < w - minO w t.l then [(k, w - minO w t.l, 0)] else [] }
def TSt.addF (t : TSt) (k : ByteArray) (w : Int) : Int × TSt :=
  if k.size = 0 then (3, t) else if w = 0 then (1, t) else if fitsB t.sum w = false then (12, t) else
  match placeE t.l k with
  | some i => (0, { t with sum := t.sum + w, l := withoutE t.l i ++ [(k, ((t.l[i]?).map fun e => e.2.1).getD 0 + w, ((t.l[i]?).map fun e => e.2.2).getD 0)] })
  | none => if t.l.length = t.m then (0, fullF t k w) else (0, { t with sum := t.sum + w, l := t.l ++ [(k, w, 0)] })
/-- An entry as it is told: its slack is what was deducted. -/
def TSt.tellF (t : TSt) (e : En) : En := (e.1, e.2.1, t.base)
def TSt.getF (t : TSt) (k : ByteArray) : En × Bool := match placeE t.l k with | none => (zeroE, false) | some i => (t.tellF ((t.l[i]?).getD zeroE), true)
def ownAt (l : List En) (i : Nat) : Int := ((l[i]?).map fun e => e.2.1).getD 0
def TSt.swapF (t : TSt) (k : ByteArray) (e : En) : (En × Int) × TSt := match placeE t.l k with
  | none => ((zeroE, 8), t)
  | some i => if e.1.size = 0 then ((zeroE, 3), t) else if (placeE t.l e.1).isSome = true then ((zeroE, 10), t) else
    if e.2.1 = 0 ∨ ownAt t.l i < e.2.1 ∨ t.base < e.2.2 then ((zeroE, 1), t) else (((t.getF k).1, 0), { t with l := withoutE t.l i ++ [(e.1, e.2.1, 0)] })
structure GoodF (t : TSt) : Prop where
  m1 : 1 ≤ t.m ∧ t.m ≤ 64
  len : t.l.length ≤ t.m
  nd : (t.l.map Prod.fst).Nodup
  pos : ∀ e ∈ t.l, 0 < e.2.1 ∧ e.2.2 = 0 ∧ 0 < e.1.size
  base0 : 0 ≤ t.base
  most : ((t.m : Int) + 1) * t.base + sumO t.l ≤ t.sum
  top : t.sum ≤ 9223372036854775808
section
variable {l : List En} {k : ByteArray} {i j : Nat} {e : En} {t : TSt} {w d : Int}
theorem sumO_app (l l' : List En) : sumO (l ++ l') = sumO l + sumO l' := by
  induction l with
  | nil => simp [sumO]
  | cons x l ih => show x.2.1 + sumO (l ++ l') = x.2.1 + sumO l + sumO l'; rw [ih]; omega
theorem sumO_perm {l l' : List En} (h : l.Perm l') : sumO l = sumO l' := by
  induction h with
  | nil => rfl
  | cons x _ ih => show x.2.1 + sumO _ = x.2.1 + sumO _; rw [ih]
  | swap x y l => show y.2.1 + (x.2.1 + sumO l) = x.2.1 + (y.2.1 + sumO l); omega
  | trans _ _ h1 h2 => exact h1.trans h2
theorem sumO_next {j : Nat} (h : l[j]? = some e) : sumO (l.take (j + 1)) = sumO (l.take j) + e.2.1 := by
  rw [List.take_add_one, h, sumO_app]
  show _ + (e.2.1 + 0) = _
  omega
theorem sumO_nonneg (h : ∀ e ∈ l, 0 ≤ e.2.1) : 0 ≤ sumO l := by
  induction l with
  | nil => exact Int.le_refl _
  | cons x l ih =>
    have h1 := h x (by simp)
    have h2 := ih fun e he => h e (by simp [he])
    show 0 ≤ x.2.1 + sumO l
    omega
theorem sumO_part (h : ∀ e ∈ l, 0 ≤ e.2.1) (j : Nat) : 0 ≤ sumO (l.take j) ∧ sumO (l.take j) ≤ sumO l := by
  have h1 : sumO l = sumO (l.take j) + sumO (l.drop j) := by
    conv => lhs; rw [← List.take_append_drop j l]
    exact sumO_app _ _
  have h2 := sumO_nonneg (l := l.take j) fun e he => h e (List.mem_of_mem_take he)
  have h3 := sumO_nonneg (l := l.drop j) fun e he => h e (List.mem_of_mem_drop he)
  omega
theorem withoutO_at (h : l[i]? = some e) : sumO (withoutE l i) + e.2.1 = sumO l := by
  obtain ⟨hi, he⟩ := List.getElem?_eq_some_iff.1 h
  have hs : l = l.take i ++ e :: l.drop (i + 1) := by
    have := List.take_append_drop i l
    rw [List.drop_eq_getElem_cons hi, he] at this
    exact this.symm
  have h2 : sumO l = sumO (l.take i) + (e.2.1 + sumO (l.drop (i + 1))) := by
    conv => lhs; rw [hs]
    rw [sumO_app]; rfl
  unfold withoutE
  rw [sumO_app]; omega
theorem sumO_ge (h : ∀ e ∈ l, 0 ≤ e.2.1) (he : e ∈ l) : e.2.1 ≤ sumO l := by
  obtain ⟨i, hi⟩ := List.mem_iff_getElem?.1 he
  have h2 := withoutO_at hi
  obtain ⟨_, _, h3, _, _⟩ := without_at hi
  have := sumO_nonneg fun x hx => h x (h3 x hx)
  omega
theorem minO_le : ∀ (l : List En) (w : Int), minO w l ≤ w ∧ ∀ e ∈ l, minO w l ≤ e.2.1
  | [], w => ⟨Int.le_refl _, fun e he => by cases he⟩
  | x :: l, w => by
    obtain ⟨h1, h2⟩ := minO_le l (min w x.2.1)
    show minO (min w x.2.1) l ≤ w ∧ _
    refine ⟨by omega, fun e he => ?_⟩
    rcases List.mem_cons.1 he with rfl | he
    · show minO (min w e.2.1) l ≤ e.2.1
      omega
    · exact h2 e he
theorem minO_pos : ∀ (l : List En) (w : Int), 0 < w → (∀ e ∈ l, 0 < e.2.1) → 0 < minO w l
  | [], w, h, _ => h
  | x :: l, w, h, hl => by
    have h1 := hl x (by simp)
    exact minO_pos l (min w x.2.1) (by omega) fun e he => hl e (by simp [he])
theorem minO_nonneg : ∀ (l : List En) (w : Int), 0 ≤ w → (∀ e ∈ l, 0 ≤ e.2.1) → 0 ≤ minO w l
  | [], w, h, _ => h
  | x :: l, w, h, hl => by
    have h1 := hl x (by simp)
    exact minO_nonneg l (min w x.2.1) (by omega) fun e he => hl e (by simp [he])
/-- The least is w, or the number of an entry. -/
theorem minO_is : ∀ (l : List En) (w : Int), minO w l = w ∨ ∃ e ∈ l, minO w l = e.2.1
  | [], w => .inl rfl
  | x :: l, w => by
    rcases minO_is l (min w x.2.1) with h | ⟨e, he, h⟩
    · show minO (min w x.2.1) l = w ∨ _
      rcases Int.le_total w x.2.1 with h1 | h1
      · exact .inl (by omega)
      · exact .inr ⟨x, by simp, by show minO (min w x.2.1) l = x.2.1; omega⟩
    · exact .inr ⟨e, by simp [he], h⟩
theorem ded_mem {x : En} : ∀ {l : List En}, x ∈ dedE d l → ∃ e ∈ l, x = (e.1, e.2.1 - d, e.2.2) ∧ 0 < e.2.1 - d
  | [], h => by cases h
  | y :: l, h => by
    unfold dedE at h
    split at h
    · rename_i hp
      rcases List.mem_cons.1 h with rfl | h
      · exact ⟨y, by simp, rfl, hp⟩
      · obtain ⟨e, he, h1⟩ := ded_mem h
        exact ⟨e, by simp [he], h1⟩
    · obtain ⟨e, he, h1⟩ := ded_mem h
      exact ⟨e, by simp [he], h1⟩
theorem mem_ded : ∀ {l : List En}, e ∈ l → 0 < e.2.1 - d → (e.1, e.2.1 - d, e.2.2) ∈ dedE d l
  | y :: l, h, hp => by
    unfold dedE
    rcases List.mem_cons.1 h with rfl | h
    · rw [if_pos hp]; simp
    · have := mem_ded h hp
      split <;> simp [this]
theorem ded_len : ∀ l : List En, (dedE d l).length ≤ l.length
  | [] => Nat.le_refl _
  | y :: l => by
    have := ded_len l
    unfold dedE
    split <;> simp <;> omega
theorem ded_keys : ∀ l : List En, ((dedE d l).map Prod.fst).Sublist (l.map Prod.fst)
  | [] => List.Sublist.refl _
  | y :: l => by
    have := ded_keys l
    unfold dedE
    split
    · exact this.cons_cons _
    · exact List.Sublist.cons _ this
theorem ded_sum : ∀ {l : List En}, (∀ e ∈ l, d ≤ e.2.1) → sumO (dedE d l) + d * (l.length : Int) = sumO l
  | [], _ => by simp [dedE, sumO]
  | y :: l, h => by
    have h1 := ded_sum (l := l) fun e he => h e (by simp [he])
    have h2 := h y (by simp)
    have e1 : d * ((y :: l).length : Int) = d * l.length + d := by simp [Int.mul_add]
    unfold dedE
    split
    · show (y.2.1 - d) + sumO (dedE d l) + _ = y.2.1 + sumO l
      rw [e1]; omega
    · show sumO (dedE d l) + _ = y.2.1 + sumO l
      rw [e1]; omega
/-- An entry that was least is gone, so that there is room. -/
theorem ded_room (h : ∀ e ∈ l, d ≤ e.2.1) (he : e ∈ l) (hd : d = e.2.1) : (dedE d l).length < l.length := by
  obtain ⟨l1, l2, rfl⟩ := List.append_of_mem he
  have : ∀ a b : List En, dedE d (a ++ b) = dedE d a ++ dedE d b := fun a b => by
    induction a with
    | nil => rfl
    | cons x a ih =>
      show (if _ then _ else _) = (if _ then _ else _) ++ _
      split <;> simp [ih]
  rw [this, List.length_append, List.length_append]
  have h1 := ded_len (d := d) l1
  have h2 := ded_len (d := d) l2
  have h3 : dedE d (e :: l2) = dedE d l2 := by
    show (if _ then _ else _) = _
    rw [if_neg (by omega)]
  rw [h3, List.length_cons]
  omega
theorem GoodF.bd (G : GoodF t) (he : e ∈ t.l) : 0 < e.2.1 ∧ e.2.1 ≤ t.sum ∧ e.2.1 + t.base ≤ t.sum := by
  have h1 := (G.pos e he).1
  have h2 := sumO_ge (fun x hx => Int.le_of_lt (G.pos x hx).1) he
  have h3 := G.most
  have h4 : t.base ≤ ((t.m : Int) + 1) * t.base := by
    have := Int.mul_nonneg (show (0 : Int) ≤ (t.m : Int) by omega) G.base0
    rw [Int.add_mul]; omega
  have := G.base0
  omega
theorem GoodF.sums (G : GoodF t) : 0 ≤ sumO t.l ∧ t.base ≤ t.sum ∧ 0 ≤ t.sum ∧ 0 ≤ ((t.m : Int) + 1) * t.base ∧ ((t.m : Int) + 1) * t.base ≤ t.sum := by
  have h0 := sumO_nonneg (l := t.l) fun x hx => Int.le_of_lt (G.pos x hx).1
  have h1 := G.most
  have h2 := G.base0
  have h3 := Int.mul_nonneg (show (0 : Int) ≤ (t.m : Int) by omega) G.base0
  have h4 : ((t.m : Int) + 1) * t.base = (t.m : Int) * t.base + t.base := by rw [Int.add_mul]; omega
  omega
theorem newF_good {m : Nat} (h : 1 ≤ m ∧ m ≤ 64) : GoodF (newT m) := ⟨h, Nat.zero_le _, List.nodup_nil, fun e he => by simp [newT] at he, Int.le_refl _, by simp [newT, sumO], by simp [newT]⟩
/-- What Add does, by cases. -/
theorem addF_form (h : k.size = 0) : t.addF k w = (3, t) := if_pos h
theorem addF_zero (h : k.size ≠ 0) (hw : w = 0) : t.addF k w = (1, t) := by unfold TSt.addF; rw [if_neg h, if_pos hw]
theorem addF_over (h : k.size ≠ 0) (hw : w ≠ 0) (hf : fitsB t.sum w = false) : t.addF k w = (12, t) := by unfold TSt.addF; rw [if_neg h, if_neg hw, if_pos hf]
theorem addF_own (h : k.size ≠ 0) (hw : w ≠ 0) (hf : fitsB t.sum w = true) (hp : placeE t.l k = some i) (hi : t.l[i]? = some e) (he : e.1 = k) : t.addF k w = (0, { t with sum := t.sum + w, l := withoutE t.l i ++ [(e.1, e.2.1 + w, e.2.2)] }) := by
  unfold TSt.addF
  rw [if_neg h, if_neg hw, if_neg (by rw [hf]; exact Bool.noConfusion), hp]
  show (0, ({ t with sum := t.sum + w, l := withoutE t.l i ++ [(k, ((t.l[i]?).map fun e => e.2.1).getD 0 + w, ((t.l[i]?).map fun e => e.2.2).getD 0)] } : TSt)) = _
  rw [hi, he]; rfl
theorem addF_room (h : k.size ≠ 0) (hw : w ≠ 0) (hf : fitsB t.sum w = true) (hp : placeE t.l k = none) (hl : t.l.length ≠ t.m) : t.addF k w = (0, { t with sum := t.sum + w, l := t.l ++ [(k, w, 0)] }) := by
  unfold TSt.addF
  rw [if_neg h, if_neg hw, if_neg (by rw [hf]; exact Bool.noConfusion), hp]
  exact if_neg hl
theorem addF_full (h : k.size ≠ 0) (hw : w ≠ 0) (hf : fitsB t.sum w = true) (hp : placeE t.l k = none) (hl : t.l.length = t.m) : t.addF k w = (0, fullF t k w) := by
  unfold TSt.addF
  rw [if_neg h, if_neg hw, if_neg (by rw [hf]; exact Bool.noConfusion), hp]
  exact if_pos hl
/-- What is left when the table is full. -/
theorem GoodF.full (G : GoodF t) (hk : 0 < k.size) (hw : 0 < w) (hf : fitsB t.sum w = true) (hp : placeE t.l k = none) (hl : t.l.length = t.m) : GoodF (fullF t k w) ∧ ((t.m : Int) + 1) * (fullF t k w).base + sumO (fullF t k w).l = ((t.m : Int) + 1) * t.base + sumO t.l + w := by
  have hsum := fits_le hf
  obtain ⟨h1, h2⟩ := minO_le t.l w
  have h3 := minO_pos t.l w hw fun e he => (G.pos e he).1
  obtain ⟨d, hd⟩ : ∃ d, minO w t.l = d := ⟨_, rfl⟩
  have hds := ded_sum (l := t.l) (d := d) (by rw [← hd]; exact h2)
  have hS : ((t.m : Int) + 1) * (t.base + d) + sumO (dedE d t.l ++ if 0 < w - d then [(k, w - d, 0)] else []) = ((t.m : Int) + 1) * t.base + sumO t.l + w := by
    have e1 : ((t.m : Int) + 1) * (t.base + d) = ((t.m : Int) + 1) * t.base + (t.m : Int) * d + d := by rw [Int.mul_add, Int.add_mul (t.m : Int) 1 d]; omega
    have e2 : d * (t.l.length : Int) = (t.m : Int) * d := by rw [hl, Int.mul_comm]
    rw [sumO_app, e1]
    have e3 : sumO (if 0 < w - d then [((k, w - d, 0) : En)] else []) = w - d := by
      split
      · show w - d + 0 = w - d; omega
      · show (0 : Int) = w - d; omega
    rw [e3]
    omega
  have hno := placeE_none hp
  unfold fullF
  rw [hd] at h1 h2 h3 ⊢
  refine ⟨⟨G.m1, ?_, ?_, fun e he => ?_, by show 0 ≤ t.base + d; have := G.base0; omega, ?_, hsum⟩, hS⟩
  · show (dedE d t.l ++ if 0 < w - d then [((k, w - d, 0) : En)] else []).length ≤ t.m
    have hle := ded_len (d := d) t.l
    rw [List.length_append]
    split
    · rename_i hwd
      rcases minO_is t.l w with h | ⟨e, he, h⟩
      · omega
      · have := ded_room (d := d) h2 he (by rw [← hd]; exact h)
        simp; omega
    · simp; omega
  · show ((dedE d t.l ++ if 0 < w - d then [((k, w - d, 0) : En)] else []).map Prod.fst).Nodup
    have hnd := List.Sublist.nodup (ded_keys (d := d) t.l) G.nd
    split
    · refine nd_snoc hnd fun x hx => ?_
      obtain ⟨e, he, rfl, _⟩ := ded_mem hx
      exact hno e he
    · rw [List.append_nil]; exact hnd
  · rcases List.mem_append.1 he with h | h
    · obtain ⟨x, hx, rfl, hp⟩ := ded_mem h
      obtain ⟨_, q2, q3⟩ := G.pos x hx
      exact ⟨hp, q2, q3⟩
    · split at h
      · rename_i hwd
        rw [List.mem_singleton.1 h]
        exact ⟨hwd, rfl, hk⟩
      · cases h
  · exact Int.le_trans (Int.le_of_eq hS) (by have := G.most; show _ + w ≤ t.sum + w; omega)
theorem GoodF.addF (G : GoodF t) (k : ByteArray) (hw : 0 ≤ w) : GoodF (t.addF k w).2 := by
  by_cases h : k.size = 0
  · rw [addF_form h]; exact G
  by_cases h0 : w = 0
  · rw [addF_zero h h0]; exact G
  cases hf : fitsB t.sum w with
  | false => rw [addF_over h h0 hf]; exact G
  | true =>
    have hsum := fits_le hf
    have hmost := G.most
    cases hp : placeE t.l k with
    | some i =>
      obtain ⟨e, hi, he, hil⟩ := placeE_some hp
      rw [addF_own h h0 hf hp hi he]
      obtain ⟨a1, _, a3, a4, _⟩ := without_at hi
      have a2 := withoutO_at hi
      obtain ⟨a6, a7⟩ := a4 G.nd
      obtain ⟨p1, p2, p3⟩ := G.pos e (List.mem_of_getElem? hi)
      have hlen : (withoutE t.l i ++ [(e.1, e.2.1 + w, e.2.2)]).length = t.l.length := by simp; omega
      refine ⟨G.m1, by rw [hlen]; exact G.len, nd_snoc a6 a7, fun x hx => ?_, G.base0, ?_, hsum⟩
      · rcases List.mem_append.1 hx with h1 | h1
        · exact G.pos x (a3 x h1)
        · rw [List.mem_singleton.1 h1]
          exact ⟨by show 0 < e.2.1 + w; omega, p2, p3⟩
      · show ((t.m : Int) + 1) * t.base + sumO (withoutE t.l i ++ [(e.1, e.2.1 + w, e.2.2)]) ≤ t.sum + w
        rw [sumO_app]
        show _ + (sumO (withoutE t.l i) + ((e.2.1 + w) + 0)) ≤ _
        omega
    | none =>
      have hno := placeE_none hp
      by_cases hl : t.l.length = t.m
      · rw [addF_full h h0 hf hp hl]
        exact (G.full (by omega) (by omega) hf hp hl).1
      · rw [addF_room h h0 hf hp hl]
        have hle := G.len
        refine ⟨G.m1, by show (t.l ++ [(k, w, 0)]).length ≤ t.m; simp; omega, nd_snoc G.nd hno, fun x hx => ?_, G.base0, ?_, hsum⟩
        · rcases List.mem_append.1 hx with h1 | h1
          · exact G.pos x h1
          · rw [List.mem_singleton.1 h1]
            exact ⟨by show 0 < w; omega, rfl, by show 0 < k.size; omega⟩
        · show ((t.m : Int) + 1) * t.base + sumO (t.l ++ [(k, w, 0)]) ≤ t.sum + w
          rw [sumO_app]
          show _ + (sumO t.l + (w + 0)) ≤ _
          omega
theorem GoodF.take (G : GoodF t) (k : ByteArray) : GoodF (t.take k) := by
  unfold TSt.take
  cases hp : placeE t.l k with
  | none => exact G
  | some i =>
    obtain ⟨e, hi, he, hil⟩ := placeE_some hp
    obtain ⟨a1, _, a3, a4, _⟩ := without_at hi
    have a2 := withoutO_at hi
    have hmost := G.most
    have hle := G.len
    have p1 := (G.pos e (List.mem_of_getElem? hi)).1
    exact ⟨G.m1, by show (withoutE t.l i).length ≤ t.m; omega, (a4 G.nd).1, fun x hx => G.pos x (a3 x hx), G.base0, by show ((t.m : Int) + 1) * t.base + sumO (withoutE t.l i) ≤ t.sum; omega, G.top⟩
theorem GoodF.swapF (G : GoodF t) (k : ByteArray) (h1 : 0 ≤ e.2.1) : GoodF (t.swapF k e).2 := by
  unfold TSt.swapF
  cases hp : placeE t.l k with
  | none => exact G
  | some i =>
    obtain ⟨x, hi, hx, hil⟩ := placeE_some hp
    show GoodF (if e.1.size = 0 then _ else _ : (En × Int) × TSt).2
    by_cases c1 : e.1.size = 0
    · rw [if_pos c1]; exact G
    rw [if_neg c1]
    by_cases c2 : (placeE t.l e.1).isSome = true
    · rw [if_pos c2]; exact G
    rw [if_neg c2]
    by_cases c3 : e.2.1 = 0 ∨ ownAt t.l i < e.2.1 ∨ t.base < e.2.2
    · rw [if_pos c3]; exact G
    rw [if_neg c3]
    have hox : ownAt t.l i = x.2.1 := by unfold ownAt; rw [hi]; rfl
    rw [hox] at c3
    obtain ⟨a1, _, a3, a4, _⟩ := without_at hi
    have a2 := withoutO_at hi
    have hmost := G.most
    have hno : placeE t.l e.1 = none := by
      cases h : placeE t.l e.1 with
      | none => rfl
      | some j => rw [h] at c2; exact absurd rfl c2
    have hlen : (withoutE t.l i ++ [((e.1, e.2.1, 0) : En)]).length = t.l.length := by simp; omega
    refine ⟨G.m1, by show (withoutE t.l i ++ [((e.1, e.2.1, 0) : En)]).length ≤ t.m; rw [hlen]; exact G.len, nd_snoc (a4 G.nd).1 fun y hy => placeE_none hno y (a3 y hy), fun y hy => ?_, G.base0, ?_, G.top⟩
    · rcases List.mem_append.1 hy with h | h
      · exact G.pos y (a3 y h)
      · rw [List.mem_singleton.1 h]
        exact ⟨by show 0 < e.2.1; omega, rfl, by show 0 < e.1.size; omega⟩
    · show ((t.m : Int) + 1) * t.base + sumO (withoutE t.l i ++ [((e.1, e.2.1, 0) : En)]) ≤ t.sum
      rw [sumO_app]
      show ((t.m : Int) + 1) * t.base + (sumO (withoutE t.l i) + (e.2.1 + 0)) ≤ t.sum
      omega
/-- Weights were only added; the last one first. -/
structure OnlyF (t : TSt) (h : List (ByteArray × Int)) : Prop where
  good : GoodF t
  all : ((t.m : Int) + 1) * t.base + sumO t.l = t.sum
  pos : ∀ a ∈ h, 0 ≤ a.2
  in_ : ∀ e ∈ t.l, e.2.1 ≤ freqE h e.1 ∧ freqE h e.1 ≤ e.2.1 + t.base
  out : ∀ k, (∀ e ∈ t.l, e.1 ≠ k) → freqE h k ≤ t.base
theorem OnlyF.new {m : Nat} (hm : 1 ≤ m ∧ m ≤ 64) : OnlyF (newT m) [] := ⟨newF_good hm, by simp [newT, sumO], fun a ha => by simp at ha, fun e he => by simp [newT] at he, fun k _ => Int.le_refl _⟩
theorem nd_key (hn : (l.map Prod.fst).Nodup) {x y : En} (hx : x ∈ l) (hy : y ∈ l) (h : x.1 = y.1) : x = y := by
  obtain ⟨i, hi⟩ := List.mem_iff_getElem?.1 hx
  obtain ⟨j, hj⟩ := List.mem_iff_getElem?.1 hy
  have h1 : (l.map Prod.fst)[i]? = some x.1 := by rw [List.getElem?_map, hi]; rfl
  have h2 : (l.map Prod.fst)[j]? = some x.1 := by rw [List.getElem?_map, hj, h]; rfl
  obtain ⟨a, ha⟩ := List.getElem?_eq_some_iff.1 h1
  obtain ⟨b, hb⟩ := List.getElem?_eq_some_iff.1 h2
  rcases Nat.lt_trichotomy i j with h3 | h3 | h3
  · exact absurd (ha.trans hb.symm) (List.pairwise_iff_getElem.1 hn i j a b h3)
  · subst h3; rw [hi] at hj; injection hj
  · exact absurd (hb.trans ha.symm) (List.pairwise_iff_getElem.1 hn j i b a h3)
theorem OnlyF.addF {h : List (ByteArray × Int)} (O : OnlyF t h) (hk : k.size ≠ 0) (hw : 0 < w) (hf : fitsB t.sum w = true) : (t.addF k w).1 = 0 ∧ OnlyF (t.addF k w).2 ((k, w) :: h) ∧ (t.addF k w).2.sum = t.sum + w ∧ (t.addF k w).2.m = t.m := by
  have G := O.good
  have G' := G.addF k (Int.le_of_lt hw)
  have hw0 : w ≠ 0 := by omega
  have hpos : ∀ a ∈ (k, w) :: h, 0 ≤ a.2 := fun a ha => by
    rcases List.mem_cons.1 ha with rfl | ha
    · exact Int.le_of_lt hw
    · exact O.pos a ha
  have hall := O.all
  cases hp : placeE t.l k with
  | some i =>
    obtain ⟨e, hi, he, hil⟩ := placeE_some hp
    have hA := addF_own hk hw0 hf hp hi he
    rw [hA] at G' ⊢
    obtain ⟨a1, _, a3, a4, a5⟩ := without_at hi
    have a2 := withoutO_at hi
    obtain ⟨a6, a7⟩ := a4 G.nd
    obtain ⟨i1, i2⟩ := O.in_ e (List.mem_of_getElem? hi)
    refine ⟨rfl, ⟨G', ?_, hpos, fun x hx => ?_, fun k' hk' => ?_⟩, rfl, rfl⟩
    · show ((t.m : Int) + 1) * t.base + sumO (withoutE t.l i ++ [(e.1, e.2.1 + w, e.2.2)]) = t.sum + w
      rw [sumO_app]
      show _ + (sumO (withoutE t.l i) + ((e.2.1 + w) + 0)) = _
      omega
    · rw [freq_cons]
      rcases List.mem_append.1 hx with h1 | h1
      · rw [if_neg (fun hc => a7 x h1 (by rw [he]; exact hc.symm))]
        have := O.in_ x (a3 x h1)
        show _ ∧ _ ≤ x.2.1 + t.base
        omega
      · rw [List.mem_singleton.1 h1]
        show e.2.1 + w ≤ freqE h e.1 + (if k = e.1 then w else 0) ∧ freqE h e.1 + (if k = e.1 then w else 0) ≤ e.2.1 + w + t.base
        rw [if_pos he.symm]
        omega
    · rw [freq_cons, if_neg (fun hc => hk' (e.1, e.2.1 + w, e.2.2) (by simp) (by show e.1 = k'; rw [he]; exact hc))]
      have := O.out k' fun x hx => by
        rcases a5 x hx with h1 | h1
        · exact hk' x (by simp [h1])
        · rw [h1]; exact hk' (e.1, e.2.1 + w, e.2.2) (by simp)
      show _ + 0 ≤ t.base
      omega
  | none =>
    have hno := placeE_none hp
    have hfk := O.out k hno
    have hf0 : 0 ≤ freqE h k := freq_pos O.pos k
    by_cases hl : t.l.length = t.m
    · have hA := addF_full hk hw0 hf hp hl
      rw [hA] at G' ⊢
      have hS := (G.full (by omega) hw hf hp hl).2
      obtain ⟨m1, m2⟩ := minO_le t.l w
      have hbase : (fullF t k w).base = t.base + minO w t.l := rfl
      have hlist : (fullF t k w).l = dedE (minO w t.l) t.l ++ if 0 < w - minO w t.l then [(k, w - minO w t.l, 0)] else [] := rfl
      obtain ⟨d, hd⟩ : ∃ d, minO w t.l = d := ⟨_, rfl⟩
      rw [hd] at m1 m2 hbase hlist
      refine ⟨rfl, ⟨G', ?_, hpos, fun x hx => ?_, fun k' hk' => ?_⟩, rfl, rfl⟩
      · show ((t.m : Int) + 1) * (fullF t k w).base + sumO (fullF t k w).l = t.sum + w
        omega
      · rw [freq_cons, hbase]
        rw [hlist] at hx
        rcases List.mem_append.1 hx with h1 | h1
        · obtain ⟨e, he, rfl, _⟩ := ded_mem h1
          rw [if_neg (fun hc => hno e he hc.symm)]
          have := O.in_ e he
          show e.2.1 - d ≤ freqE h e.1 + 0 ∧ freqE h e.1 + 0 ≤ e.2.1 - d + (t.base + d)
          have hd0 : 0 ≤ d := by rw [← hd]; exact minO_nonneg t.l w (Int.le_of_lt hw) fun y hy => Int.le_of_lt (G.pos y hy).1
          omega
        · split at h1
          · rw [List.mem_singleton.1 h1]
            show w - d ≤ freqE h k + (if k = k then w else 0) ∧ freqE h k + (if k = k then w else 0) ≤ w - d + (t.base + d)
            rw [if_pos rfl]
            have hd0 : 0 ≤ d := by rw [← hd]; exact minO_nonneg t.l w (Int.le_of_lt hw) fun y hy => Int.le_of_lt (G.pos y hy).1
            omega
          · cases h1
      · rw [freq_cons, hbase]
        rw [hlist] at hk'
        by_cases hkk : k = k'
        · subst hkk
          rw [if_pos rfl]
          by_cases hwd : 0 < w - d
          · exact absurd rfl (hk' (k, w - d, 0) (by rw [if_pos hwd]; simp))
          · show freqE h k + w ≤ t.base + d
            omega
        · rw [if_neg hkk]
          show freqE h k' + 0 ≤ t.base + d
          have hd0 : 0 ≤ d := by rw [← hd]; exact minO_nonneg t.l w (Int.le_of_lt hw) fun y hy => Int.le_of_lt (G.pos y hy).1
          by_cases hin : ∃ e ∈ t.l, e.1 = k'
          · obtain ⟨e, he, rfl⟩ := hin
            have h1 := (O.in_ e he).2
            by_cases hp0 : 0 < e.2.1 - d
            · exact absurd rfl (hk' (e.1, e.2.1 - d, e.2.2) (List.mem_append.2 (.inl (mem_ded he hp0))))
            · omega
          · have := O.out k' fun e he hc => hin ⟨e, he, hc⟩
            omega
    · have hA := addF_room hk hw0 hf hp hl
      rw [hA] at G' ⊢
      refine ⟨rfl, ⟨G', ?_, hpos, fun x hx => ?_, fun k' hk' => ?_⟩, rfl, rfl⟩
      · show ((t.m : Int) + 1) * t.base + sumO (t.l ++ [(k, w, 0)]) = t.sum + w
        rw [sumO_app]
        show _ + (sumO t.l + (w + 0)) = _
        omega
      · rw [freq_cons]
        rcases List.mem_append.1 hx with h1 | h1
        · rw [if_neg (fun hc => hno x h1 hc.symm)]
          have := O.in_ x h1
          show _ ∧ _ ≤ x.2.1 + t.base
          omega
        · rw [List.mem_singleton.1 h1]
          show w ≤ freqE h k + (if k = k then w else 0) ∧ freqE h k + (if k = k then w else 0) ≤ w + t.base
          rw [if_pos rfl]
          omega
      · rw [freq_cons, if_neg (fun hc => hk' (k, w, 0) (by simp) hc)]
        have := O.out k' fun x hx => hk' x (by simp [hx])
        show _ + 0 ≤ t.base
        omega
end
end Go.Proofs.Ytgkokglngpbamaa
