/- The plain mathematics of tables from keys to values: keys in ascending order, each with its value. Conditions: none beyond those typed. -/
import Derived.Test.YtbdafhephmoedaaTm
namespace Go.Proofs.Ytbdafhephmoedaa
set_option linter.unusedVariables false
set_option linter.unusedSimpArgs false

/-- Ascending by bytes. -/
def sless (a b : ByteArray) : Bool := Op.bytesLess a.toList b.toList
theorem sless_irrefl (a : ByteArray) : sless a a = false := bl_irrefl _
theorem sless_trans {a b c : ByteArray} (h1 : sless a b = true) (h2 : sless b c = true) : sless a c = true := bl_trans _ _ _ h1 h2
theorem sless_asymm {a b : ByteArray} (h : sless a b = true) : sless b a = false := bl_asymm h
theorem toList_inj' {a b : ByteArray} (h : a.toList = b.toList) : a = b := by
  rw [Lib.toList_data, Lib.toList_data] at h
  exact ByteArray.ext (Array.toList_inj.1 h)
theorem sless_total (a b : ByteArray) : a = b ∨ sless a b = true ∨ sless b a = true := by
  rcases bl_total a.toList b.toList with h | h | h
  · exact .inl (toList_inj' h)
  · exact .inr (.inl h)
  · exact .inr (.inr h)
theorem sless_ne {a b : ByteArray} (h : sless a b = true) : a ≠ b := fun e => by subst e; rw [sless_irrefl] at h; cases h
section
variable {α : Type}
/-- Keys in ascending order, none twice. -/
def Srt (l : List (ByteArray × α)) : Prop := l.Pairwise fun p q => sless p.1 q.1 = true
/-- The place of a key. -/
def placeM (l : List (ByteArray × α)) (s : ByteArray) : Nat := l.findIdx fun p => !sless p.1 s
def lookM (l : List (ByteArray × α)) (s : ByteArray) : Option α := (l.find? fun p => decide (p.1 = s)).map Prod.snd
variable {l : List (ByteArray × α)} {s t : ByteArray} {v u : α} {p q : ByteArray × α} {i j : Nat}
theorem place_le (l : List (ByteArray × α)) (s : ByteArray) : placeM l s ≤ l.length := List.findIdx_le_length
theorem place_before (h : i < placeM l s) (hp : l[i]? = some p) : sless p.1 s = true := by
  obtain ⟨hl, rfl⟩ := List.getElem?_eq_some_iff.1 hp
  have := List.not_of_lt_findIdx h
  simpa using this
theorem place_at (hp : l[placeM l s]? = some p) : sless p.1 s = false := by
  obtain ⟨hl, rfl⟩ := List.getElem?_eq_some_iff.1 hp
  have h1 := List.findIdx_getElem (p := fun p : ByteArray × α => !sless p.1 s) (w := hl)
  have h2 : (!sless (l[placeM l s]'hl).1 s) = true := h1
  revert h2
  cases sless (l[placeM l s]'hl).1 s <;> simp
theorem srt_at (h : Srt l) (hp : l[i]? = some p) (hq : l[j]? = some q) (hij : i < j) : sless p.1 q.1 = true := by
  obtain ⟨hi, rfl⟩ := List.getElem?_eq_some_iff.1 hp
  obtain ⟨hj, rfl⟩ := List.getElem?_eq_some_iff.1 hq
  exact List.pairwise_iff_getElem.1 h i j hi hj hij
/-- What stands behind the place is greater. -/
theorem place_behind (h : Srt l) (hi : placeM l s ≤ i) (hp : l[i]? = some p) (hne : p.1 ≠ s) : sless s p.1 = true := by
  have hlt : placeM l s < l.length := Nat.lt_of_le_of_lt hi (List.getElem?_eq_some_iff.1 hp).1
  obtain ⟨q, hq⟩ : ∃ q, l[placeM l s]? = some q := ⟨_, List.getElem?_eq_getElem hlt⟩
  have h0 := place_at hq
  rcases Nat.lt_or_ge (placeM l s) i with hi' | hi'
  · have h1 := srt_at h hq hp hi'
    rcases sless_total q.1 s with e | e | e
    · rw [e] at h1; exact h1
    · rw [h0] at e; cases e
    · exact sless_trans e h1
  · obtain rfl : placeM l s = i := by omega
    rw [hq] at hp; injection hp with hp; subst hp
    rcases sless_total q.1 s with e | e | e
    · exact absurd e hne
    · rw [h0] at e; cases e
    · exact e
theorem place_behind' (h : Srt l) (hi : placeM l s < i) (hp : l[i]? = some p) : sless s p.1 = true := by
  refine place_behind h (Nat.le_of_lt hi) hp fun e => ?_
  have hlt : placeM l s < l.length := Nat.lt_trans hi (List.getElem?_eq_some_iff.1 hp).1
  obtain ⟨q, hq⟩ : ∃ q, l[placeM l s]? = some q := ⟨_, List.getElem?_eq_getElem hlt⟩
  have h1 := srt_at h hq hp hi
  rw [e, place_at hq] at h1; cases h1
theorem srt_same (h : Srt l) (hp : l[i]? = some p) (hq : l[j]? = some q) (he : p.1 = q.1) : i = j := by
  rcases Nat.lt_trichotomy i j with h1 | h1 | h1
  · have := srt_at h hp hq h1; rw [he, sless_irrefl] at this; cases this
  · exact h1
  · have := srt_at h hq hp h1; rw [he, sless_irrefl] at this; cases this
theorem look_mem (h : Srt l) : lookM l s = some v ↔ (s, v) ∈ l := by
  unfold lookM
  constructor
  · intro e
    cases hf : l.find? fun p => decide (p.1 = s) with
    | none => rw [hf] at e; cases e
    | some p =>
      rw [hf] at e; injection e with e
      have h1 := List.find?_some hf
      have h2 := List.mem_of_find?_eq_some hf
      obtain ⟨a, b⟩ := p
      simp at h1 e; subst h1 e; exact h2
  · intro hm
    cases hf : l.find? fun p => decide (p.1 = s) with
    | none => have := List.find?_eq_none.1 hf _ hm; simp at this
    | some p =>
      have h1 : p.1 = s := by simpa using List.find?_some hf
      obtain ⟨i, hi⟩ := List.mem_iff_getElem?.1 (List.mem_of_find?_eq_some hf)
      obtain ⟨j, hj⟩ := List.mem_iff_getElem?.1 hm
      obtain rfl := srt_same h hi hj h1
      rw [hi] at hj; injection hj with hj; rw [hj]; rfl
theorem look_at (h : Srt l) (hp : l[i]? = some p) : lookM l p.1 = some p.2 := (look_mem h).2 (List.mem_of_getElem? hp)
/-- A key lies at its place or nowhere. -/
theorem look_place (h : Srt l) (s : ByteArray) : lookM l s = match l[placeM l s]? with | some p => if p.1 = s then some p.2 else none | none => none := by
  cases hp : l[placeM l s]? with
  | none =>
    simp only
    cases hl : lookM l s with
    | none => rfl
    | some v =>
      obtain ⟨i, hi⟩ := List.mem_iff_getElem?.1 ((look_mem h).1 hl)
      have h1 : i < placeM l s := by
        have := (List.getElem?_eq_some_iff.1 hi).1
        have := List.getElem?_eq_none_iff.1 hp
        omega
      have := place_before h1 hi
      rw [sless_irrefl] at this; cases this
  | some p =>
    simp only
    by_cases he : p.1 = s
    · rw [if_pos he, ← he]; rw [← he] at hp; exact look_at h hp
    · rw [if_neg he]
      cases hl : lookM l s with
      | none => rfl
      | some v =>
        obtain ⟨i, hi⟩ := List.mem_iff_getElem?.1 ((look_mem h).1 hl)
        rcases Nat.lt_trichotomy i (placeM l s) with h1 | h1 | h1
        · have := place_before h1 hi; rw [sless_irrefl] at this; cases this
        · subst h1; rw [hp] at hi; injection hi with hi; rw [hi] at he; exact absurd rfl he
        · have := place_behind' h h1 hi; rw [sless_irrefl] at this; cases this
theorem look_some (h : Srt l) (hl : lookM l s = some v) : l[placeM l s]? = some (s, v) := by
  rw [look_place h] at hl
  cases hp : l[placeM l s]? with
  | none => rw [hp] at hl; cases hl
  | some p =>
    rw [hp] at hl
    by_cases he : p.1 = s
    · simp only [he, if_true] at hl; injection hl with hl; obtain ⟨a, b⟩ := p; simp only at he hl; rw [he, hl]
    · simp only [he, if_false] at hl; cases hl
/-- One more key. -/
def addM (l : List (ByteArray × α)) (s : ByteArray) (v : α) : List (ByteArray × α) := l.take (placeM l s) ++ (s, v) :: l.drop (placeM l s)
def setM (l : List (ByteArray × α)) (s : ByteArray) (v : α) : List (ByteArray × α) := l.set (placeM l s) (s, v)
def delM (l : List (ByteArray × α)) (s : ByteArray) : List (ByteArray × α) := l.take (placeM l s) ++ l.drop (placeM l s + 1)
theorem mem_take_before (h : p ∈ l.take (placeM l s)) : sless p.1 s = true := by
  obtain ⟨i, hi⟩ := List.mem_iff_getElem?.1 h
  have h1 : i < placeM l s := by
    have := (List.getElem?_eq_some_iff.1 hi).1
    simp at this; omega
  rw [List.getElem?_take_of_lt h1] at hi
  exact place_before h1 hi
theorem add_srt (h : Srt l) (hn : lookM l s = none) : Srt (addM l s v) := by
  have hd : ∀ q ∈ l.drop (placeM l s), sless s q.1 = true := fun q hq => by
    obtain ⟨i, hi⟩ := List.mem_iff_getElem?.1 hq
    rw [List.getElem?_drop] at hi
    refine place_behind h (Nat.le_add_right _ _) hi fun e => ?_
    have := look_at h hi
    rw [e, hn] at this; cases this
  refine List.pairwise_append.2 ⟨h.sublist (List.take_sublist _ _), List.pairwise_cons.2 ⟨hd, h.sublist (List.drop_sublist _ _)⟩, fun p hp q hq => ?_⟩
  have h1 := mem_take_before hp
  rcases List.mem_cons.1 hq with rfl | hq
  · exact h1
  · exact sless_trans h1 (hd q hq)
theorem add_mem : p ∈ addM l s v ↔ p = (s, v) ∨ p ∈ l := by
  unfold addM
  rw [List.mem_append, List.mem_cons]
  have : p ∈ l ↔ p ∈ l.take (placeM l s) ∨ p ∈ l.drop (placeM l s) := by rw [← List.mem_append, List.take_append_drop]
  rw [this]
  constructor
  · rintro (h | h | h)
    · exact .inr (.inl h)
    · exact .inl h
    · exact .inr (.inr h)
  · rintro (h | h | h)
    · exact .inr (.inl h)
    · exact .inl h
    · exact .inr (.inr h)
theorem add_len : (addM l s v).length = l.length + 1 := by
  have := place_le l s
  unfold addM; simp; omega
theorem look_ext {l' : List (ByteArray × α)} {o : Option α} (h : Srt l') (he : ∀ u, (t, u) ∈ l' ↔ o = some u) : lookM l' t = o := by
  cases hl : lookM l' t with
  | none =>
    cases o with
    | none => rfl
    | some u => have := (look_mem h).2 ((he u).2 rfl); rw [hl] at this; cases this
  | some u => exact ((he u).1 ((look_mem h).1 hl)).symm
theorem look_add (h : Srt l) (hn : lookM l s = none) (t : ByteArray) : lookM (addM l s v) t = if t = s then some v else lookM l t := by
  refine look_ext (add_srt h hn) fun u => ?_
  rw [add_mem]
  by_cases e : t = s
  · subst e
    rw [if_pos rfl]
    constructor
    · rintro (h1 | h1)
      · injection h1 with _ h1; rw [h1]
      · have := (look_mem h).2 h1; rw [hn] at this; cases this
    · intro h1; injection h1 with h1; rw [h1]; exact .inl rfl
  · rw [if_neg e, look_mem h]
    constructor
    · rintro (h1 | h1)
      · injection h1 with h1; exact absurd h1 e
      · exact h1
    · exact .inr
theorem set_keys (h : Srt l) (hl : lookM l s = some u) : (setM l s v).map Prod.fst = l.map Prod.fst := by
  have hp := look_some h hl
  unfold setM
  rw [List.map_set]
  refine List.ext_getElem? fun i => ?_
  rw [List.getElem?_set]
  by_cases e : placeM l s = i
  · subst e; rw [if_pos rfl, List.getElem?_map, hp]; simp [(List.getElem?_eq_some_iff.1 hp).1]
  · rw [if_neg e]
theorem srt_keys {l' : List (ByteArray × α)} (h : Srt l) (he : l'.map Prod.fst = l.map Prod.fst) : Srt l' := by
  have h1 : (l.map Prod.fst).Pairwise fun a b => sless a b = true := List.pairwise_map.2 h
  rw [← he] at h1
  exact List.pairwise_map.1 h1
theorem set_srt (h : Srt l) (hl : lookM l s = some u) : Srt (setM l s v) := srt_keys h (set_keys h hl)
theorem set_len : (setM l s v).length = l.length := by simp [setM]
theorem look_set (h : Srt l) (hl : lookM l s = some u) (t : ByteArray) : lookM (setM l s v) t = if t = s then some v else lookM l t := by
  have hp := look_some h hl
  refine look_ext (set_srt h hl) fun x => ?_
  have key : ∀ i : Nat, (setM l s v)[i]? = if placeM l s = i then some (s, v) else l[i]? := fun i => by
    unfold setM
    rw [List.getElem?_set]
    by_cases e : placeM l s = i
    · subst e; simp [(List.getElem?_eq_some_iff.1 hp).1]
    · rw [if_neg e, if_neg e]
  rw [List.mem_iff_getElem?]
  by_cases e : t = s
  · subst e
    rw [if_pos rfl]
    constructor
    · rintro ⟨i, hi⟩
      rw [key] at hi
      by_cases ei : placeM l t = i
      · rw [if_pos ei] at hi; injection hi with hi; injection hi with _ hi; rw [hi]
      · rw [if_neg ei] at hi; exact absurd (srt_same h hp hi rfl) ei
    · intro h1; injection h1 with h1; subst h1; exact ⟨placeM l t, by rw [key, if_pos rfl]⟩
  · rw [if_neg e, look_mem h, List.mem_iff_getElem?]
    constructor
    · rintro ⟨i, hi⟩
      rw [key] at hi
      by_cases ei : placeM l s = i
      · rw [if_pos ei] at hi; injection hi with hi; injection hi with hi; exact absurd hi.symm e
      · rw [if_neg ei] at hi; exact ⟨i, hi⟩
    · rintro ⟨i, hi⟩
      refine ⟨i, ?_⟩
      rw [key]
      by_cases ei : placeM l s = i
      · subst ei; rw [hp] at hi; injection hi with hi; injection hi with hi; exact absurd hi.symm e
      · rw [if_neg ei]; exact hi
theorem del_srt (h : Srt l) : Srt (delM l s) := by
  refine List.pairwise_append.2 ⟨h.sublist (List.take_sublist _ _), h.sublist (List.drop_sublist _ _), fun p hp q hq => ?_⟩
  have h1 := mem_take_before hp
  obtain ⟨i, hi⟩ := List.mem_iff_getElem?.1 hq
  rw [List.getElem?_drop] at hi
  exact sless_trans h1 (place_behind' h (by omega) hi)
theorem del_len (h : Srt l) (hl : lookM l s = some v) : (delM l s).length + 1 = l.length := by
  have := (List.getElem?_eq_some_iff.1 (look_some h hl)).1
  unfold delM; simp; omega
theorem look_del (h : Srt l) (hl : lookM l s = some v) (t : ByteArray) : lookM (delM l s) t = if t = s then none else lookM l t := by
  have hp := look_some h hl
  refine look_ext (del_srt h) fun x => ?_
  have hm : (t, x) ∈ delM l s ↔ ∃ i, i ≠ placeM l s ∧ l[i]? = some (t, x) := by
    unfold delM
    rw [List.mem_append, List.mem_iff_getElem?, List.mem_iff_getElem?]
    constructor
    · rintro (⟨i, hi⟩ | ⟨i, hi⟩)
      · have h1 : i < placeM l s := by have := (List.getElem?_eq_some_iff.1 hi).1; simp at this; omega
        rw [List.getElem?_take_of_lt h1] at hi
        exact ⟨i, by omega, hi⟩
      · rw [List.getElem?_drop] at hi
        exact ⟨_, by omega, hi⟩
    · rintro ⟨i, hne, hi⟩
      rcases Nat.lt_or_ge i (placeM l s) with h1 | h1
      · exact .inl ⟨i, by rw [List.getElem?_take_of_lt h1]; exact hi⟩
      · exact .inr ⟨i - (placeM l s + 1), by rw [List.getElem?_drop, show placeM l s + 1 + (i - (placeM l s + 1)) = i by omega]; exact hi⟩
  rw [hm]
  by_cases e : t = s
  · subst e
    rw [if_pos rfl]
    constructor
    · rintro ⟨i, hne, hi⟩; exact absurd (srt_same h hi hp rfl) hne
    · intro h1; cases h1
  · rw [if_neg e, look_mem h, List.mem_iff_getElem?]
    constructor
    · rintro ⟨i, _, hi⟩; exact ⟨i, hi⟩
    · rintro ⟨i, hi⟩
      refine ⟨i, fun ei => ?_, hi⟩
      subst ei; rw [hp] at hi; injection hi with hi; injection hi with hi; exact absurd hi.symm e
/-- Two rows in order with the same keys are one. -/
theorem srt_unique {l l' : List ByteArray} (h : l.Pairwise fun a b => sless a b = true) (h' : l'.Pairwise fun a b => sless a b = true) (hm : ∀ s, s ∈ l ↔ s ∈ l') : l = l' := by
  induction l generalizing l' with
  | nil =>
    cases l' with
    | nil => rfl
    | cons b r => have := (hm b).2 (List.mem_cons_self ..); simp at this
  | cons a r ih =>
    cases l' with
    | nil => have := (hm a).1 (List.mem_cons_self ..); simp at this
    | cons b r' =>
      obtain ⟨h1, h2⟩ := List.pairwise_cons.1 h
      obtain ⟨h1', h2'⟩ := List.pairwise_cons.1 h'
      have hab : a = b := by
        rcases List.mem_cons.1 ((hm a).1 (List.mem_cons_self ..)) with e | e
        · exact e
        · rcases List.mem_cons.1 ((hm b).2 (List.mem_cons_self ..)) with e' | e'
          · exact e'.symm
          · have := sless_trans (h1 b e') (h1' a e)
            rw [sless_irrefl] at this; cases this
      subst hab
      rw [ih h2 h2' fun s => ?_]
      constructor
      · intro hs
        rcases List.mem_cons.1 ((hm s).1 (List.mem_cons_of_mem _ hs)) with e | e
        · subst e; have := h1 s hs; rw [sless_irrefl] at this; cases this
        · exact e
      · intro hs
        rcases List.mem_cons.1 ((hm s).2 (List.mem_cons_of_mem _ hs)) with e | e
        · subst e; have := h1' s hs; rw [sless_irrefl] at this; cases this
        · exact e
theorem look_key (h : Srt l) : (∃ v, lookM l s = some v) ↔ s ∈ l.map Prod.fst := by
  constructor
  · rintro ⟨v, hv⟩; exact List.mem_map.2 ⟨_, (look_mem h).1 hv, rfl⟩
  · intro hm
    obtain ⟨⟨a, b⟩, h1, h2⟩ := List.mem_map.1 hm
    simp only at h2; subst h2
    exact ⟨b, (look_mem h).2 h1⟩
end
/-- A table: at most n keys. -/
structure MSt (α : Type) where
  n : Nat
  l : List (ByteArray × α)
section
variable {α : Type} {m : MSt α} {s t : ByteArray} {v u : α}
def MSt.look (m : MSt α) (s : ByteArray) : Option α := lookM m.l s
def MSt.put (m : MSt α) (s : ByteArray) (v : α) : Int × MSt α :=
  match m.look s with
  | some _ => (0, { m with l := setM m.l s v })
  | none => if m.l.length = m.n then (7, m) else (0, { m with l := addM m.l s v })
def MSt.del (m : MSt α) (s : ByteArray) : MSt α := match m.look s with | some _ => { m with l := delM m.l s } | none => m
def MSt.keys (m : MSt α) : List ByteArray := m.l.map Prod.fst
def MSt.vals (m : MSt α) : List α := m.l.map Prod.snd
structure GoodM (m : MSt α) : Prop where
  n1 : 1 ≤ m.n
  n8 : m.n ≤ 8192
  len : m.l.length ≤ m.n
  srt : Srt m.l
def newM (α : Type) (n : Nat) : MSt α := ⟨n, []⟩
theorem newM_good {n : Nat} (h1 : 1 ≤ n) (h8 : n ≤ 8192) : GoodM (newM α n) := ⟨h1, h8, Nat.zero_le _, List.Pairwise.nil⟩
theorem GoodM.put (h : GoodM m) (s : ByteArray) (v : α) : GoodM (m.put s v).2 := by
  unfold MSt.put
  cases hl : m.look s with
  | some u => exact ⟨h.n1, h.n8, by simp only [set_len]; exact h.len, set_srt h.srt hl⟩
  | none =>
    simp only
    by_cases hn : m.l.length = m.n
    · rw [if_pos hn]; exact h
    · rw [if_neg hn]; exact ⟨h.n1, h.n8, by simp only [add_len]; have := h.len; omega, add_srt h.srt hl⟩
theorem GoodM.del (h : GoodM m) (s : ByteArray) : GoodM (m.del s) := by
  unfold MSt.del
  cases hl : m.look s with
  | some u => exact ⟨h.n1, h.n8, by have := del_len h.srt hl; have := h.len; simp only; omega, del_srt h.srt⟩
  | none => exact h
theorem put_n (m : MSt α) (s : ByteArray) (v : α) : (m.put s v).2.n = m.n := by
  unfold MSt.put
  cases m.look s with
  | some u => rfl
  | none => simp only; split <;> rfl
theorem del_n (m : MSt α) (s : ByteArray) : (m.del s).n = m.n := by unfold MSt.del; split <;> rfl
/-- The function that a table is. -/
theorem put_look (h : GoodM m) (s : ByteArray) (v : α) (h0 : (m.put s v).1 = 0) (t : ByteArray) : (m.put s v).2.look t = if t = s then some v else m.look t := by
  unfold MSt.put at h0 ⊢
  cases hl : m.look s with
  | some u => exact look_set h.srt hl t
  | none =>
    rw [hl] at h0
    simp only at h0 ⊢
    by_cases hn : m.l.length = m.n
    · rw [if_pos hn] at h0; cases h0
    · rw [if_neg hn]; exact look_add h.srt hl t
theorem del_look (h : GoodM m) (s t : ByteArray) : (m.del s).look t = if t = s then none else m.look t := by
  unfold MSt.del
  cases hl : m.look s with
  | some u => exact look_del h.srt hl t
  | none =>
    by_cases e : t = s
    · subst e; rw [if_pos rfl]; exact hl
    · rw [if_neg e]
theorem put_fresh (h : m.look s = none) (hn : m.l.length ≠ m.n) (v : α) : (m.put s v).1 = 0 ∧ (m.put s v).2.l.length = m.l.length + 1 := by
  unfold MSt.put; rw [h]; exact ⟨by simp only [if_neg hn], by simp only [if_neg hn]; exact add_len⟩
theorem put_old (h : m.look s = some u) (v : α) : (m.put s v).1 = 0 ∧ (m.put s v).2.l.length = m.l.length := by
  unfold MSt.put; rw [h]; exact ⟨rfl, set_len⟩
theorem put_no (h : m.look s = none) (hn : m.l.length = m.n) (v : α) : m.put s v = (7, m) := by
  unfold MSt.put; rw [h]; simp only [if_pos hn]
theorem newM_look (n : Nat) (s : ByteArray) : (newM α n).look s = none := rfl
theorem del_gone (h : GoodM m) (hl : m.look s = some u) : (m.del s).l.length + 1 = m.l.length := by unfold MSt.del; rw [hl]; exact del_len h.srt hl
theorem del_not (hl : m.look s = none) : m.del s = m := by unfold MSt.del; rw [hl]
/-- Two tables that are one function have the same keys. -/
theorem keys_same {β : Type} {m' : MSt β} (h : GoodM m) (h' : GoodM m') (he : ∀ t, (m.look t).isSome = (m'.look t).isSome) : m.keys = m'.keys := by
  have e1 : m.keys.Pairwise fun a b => sless a b = true := List.pairwise_map.2 h.srt
  have e2 : m'.keys.Pairwise fun a b => sless a b = true := List.pairwise_map.2 h'.srt
  refine srt_unique e1 e2 fun t => ?_
  unfold MSt.keys
  have h1 := look_key (s := t) h.srt
  have h2 := look_key (s := t) h'.srt
  have h3 := he t
  unfold MSt.look at h3
  rw [← h1, ← h2]
  constructor
  · rintro ⟨v, hv⟩
    rw [hv] at h3
    exact Option.isSome_iff_exists.1 h3.symm
  · rintro ⟨v, hv⟩
    rw [hv] at h3
    exact Option.isSome_iff_exists.1 h3
end
end Go.Proofs.Ytbdafhephmoedaa
