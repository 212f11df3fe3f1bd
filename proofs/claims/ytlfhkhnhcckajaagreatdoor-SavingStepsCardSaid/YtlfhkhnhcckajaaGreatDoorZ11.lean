/- Words laid together in one text. Conditions: none beyond those typed. -/
import Derived.Test.YtlfhkhnhcckajaaGreatDoorZ10
import Derived.Test.YtlfhkhnhcckajaaGreatDoorZ01
import Derived.Test.YtlfhkhnhcckajaaGreatDoorZ04
/- The plain mathematics of orders: elements with their counts, ascending; an element comes behind all others with its count. Conditions: none beyond those typed. -/
namespace Go.Proofs.YtlfhkhnhcckajaaGreatDoor
set_option linter.unusedVariables false
set_option linter.unusedSimpArgs false

/-- The place behind all elements whose counts are at most c. -/
def posR (l : List (Nat × Int)) (c : Int) : Nat := l.findIdx fun p => decide (c < p.2)
def putR (l : List (Nat × Int)) (id : Nat) (c : Int) : List (Nat × Int) := l.take (posR l c) ++ (id, c) :: l.drop (posR l c)
def CSt.insR (m : CSt Int) (z c : Int) : Int × CSt Int :=
  if z < 0 ∨ (m.n : Int) ≤ z then (1, m) else if (placeC m.l z).isSome = true then (10, m) else if 9223372036854775808 < c then (12, m) else (0, { m with l := putR m.l z.toNat c })
def CSt.raiseR (m : CSt Int) (z by_ : Int) : Int × CSt Int := match placeC m.l z with
  | none => (8, m)
  | some i => match m.l[i]? with
    | none => (8, m)
    | some p => if fitsB p.2 by_ = true then (0, if 0 < by_ then { m with l := putR (remC m.l i) p.1 (p.2 + by_) } else m) else (12, m)
def CSt.countR (m : CSt Int) (z : Int) : Int × Bool := ((m.value 0 z).1, (placeC m.l z).isSome)
def CSt.leastR (m : CSt Int) : (Int × Int) × Bool := match m.l with | [] => ((0, 0), false) | p :: _ => (((p.1 : Int), p.2), true)
structure GoodR (m : CSt Int) : Prop where
  c : GoodC m
  srt : m.l.Pairwise fun p q => p.2 ≤ q.2
  bd : ∀ p ∈ m.l, 0 ≤ p.2 ∧ p.2 ≤ 9223372036854775808
section
variable {l : List (Nat × Int)} {m : CSt Int} {i j id : Nat} {z c : Int} {p : Nat × Int}
theorem pos_le (l : List (Nat × Int)) (c : Int) : posR l c ≤ l.length := List.findIdx_le_length
theorem pos_before (h : i < posR l c) (hp : l[i]? = some p) : p.2 ≤ c := by
  obtain ⟨hl, rfl⟩ := List.getElem?_eq_some_iff.1 hp
  have := List.not_of_lt_findIdx h
  simpa using this
theorem pos_at (hp : l[posR l c]? = some p) : c < p.2 := by
  obtain ⟨hl, rfl⟩ := List.getElem?_eq_some_iff.1 hp
  have h1 := List.findIdx_getElem (p := fun p : Nat × Int => decide (c < p.2)) (w := hl)
  have h2 : decide (c < (l[posR l c]'hl).2) = true := h1
  simpa using h2
theorem pos_is (hb : ∀ i p, i < j → l[i]? = some p → p.2 ≤ c) (h : ∀ p, l[j]? = some p → c < p.2) (hj : j ≤ l.length) : posR l c = j := by
  rcases Nat.lt_trichotomy (posR l c) j with h1 | h1 | h1
  · obtain ⟨p, hp⟩ : ∃ p, l[posR l c]? = some p := ⟨_, List.getElem?_eq_getElem (by omega)⟩
    have := hb _ p h1 hp
    have := pos_at hp
    omega
  · exact h1
  · have hle := pos_le l c
    obtain ⟨p, hp⟩ : ∃ p, l[j]? = some p := ⟨_, List.getElem?_eq_getElem (by omega)⟩
    have := h p hp
    have := pos_before h1 hp
    omega
theorem put_perm (l : List (Nat × Int)) (id : Nat) (c : Int) : (putR l id c).Perm ((id, c) :: l) := by
  unfold putR
  have := List.perm_middle (a := (id, c)) (l₁ := l.take (posR l c)) (l₂ := l.drop (posR l c))
  rwa [List.take_append_drop] at this
theorem put_len (l : List (Nat × Int)) (id : Nat) (c : Int) : (putR l id c).length = l.length + 1 := (put_perm l id c).length_eq
theorem put_srt (h : l.Pairwise fun p q => p.2 ≤ q.2) (id : Nat) (c : Int) : (putR l id c).Pairwise fun p q => p.2 ≤ q.2 := by
  unfold putR
  have h1 : ∀ p ∈ l.take (posR l c), p.2 ≤ c := fun p hp => by
    obtain ⟨i, hi⟩ := List.mem_iff_getElem?.1 hp
    have hlt : i < posR l c := by
      have := (List.getElem?_eq_some_iff.1 hi).1
      rw [List.length_take] at this; omega
    rw [List.getElem?_take_of_lt hlt] at hi
    exact pos_before hlt hi
  have h2 : ∀ p ∈ l.drop (posR l c), c ≤ p.2 := fun p hp => by
    obtain ⟨i, hi⟩ := List.mem_iff_getElem?.1 hp
    rw [List.getElem?_drop] at hi
    obtain ⟨q, hq⟩ : ∃ q, l[posR l c]? = some q := ⟨_, List.getElem?_eq_getElem (by have := (List.getElem?_eq_some_iff.1 hi).1; omega)⟩
    have h3 := pos_at hq
    cases i with
    | zero => rw [Nat.add_zero, hq] at hi; injection hi with hi; subst hi; omega
    | succ k =>
      obtain ⟨a, ha⟩ := List.getElem?_eq_some_iff.1 hq
      obtain ⟨b, hb⟩ := List.getElem?_eq_some_iff.1 hi
      have := List.pairwise_iff_getElem.1 h _ _ a b (by omega)
      rw [ha, hb] at this
      omega
  rw [List.pairwise_append]
  refine ⟨h.sublist (List.take_sublist _ _), List.pairwise_cons.2 ⟨h2, h.sublist (List.drop_sublist _ _)⟩, fun a ha b hb => ?_⟩
  rcases List.mem_cons.1 hb with rfl | hb
  · exact h1 a ha
  · exact Int.le_trans (h1 a ha) (h2 b hb)
theorem rem_sub (l : List (Nat × Int)) (i : Nat) : (remC l i).Sublist l := by
  unfold remC
  have h1 : (l.drop (i + 1)).Sublist (l.drop i) := by
    rw [show l.drop (i + 1) = (l.drop i).drop 1 by rw [List.drop_drop]]
    exact List.drop_sublist _ _
  have := List.Sublist.append (List.Sublist.refl (l.take i)) h1
  rwa [List.take_append_drop] at this
theorem rem_len (hi : i < l.length) : (remC l i).length + 1 = l.length := by unfold remC; rw [List.length_append, List.length_take, List.length_drop]; omega
theorem GoodR.put (G : GoodR m) (hid : id < m.n) (hno : placeC m.l (id : Int) = none) (hc : 0 ≤ c ∧ c ≤ 9223372036854775808) : GoodR { m with l := putR m.l id c } := by
  have hp := put_perm m.l id c
  have hnot : id ∉ m.nodes := fun hm => by
    have := place_node (m := m) id
    rw [hno, decide_eq_true hm] at this; cases this
  have hnd : (id :: m.nodes).Nodup := List.nodup_cons.2 ⟨hnot, G.c.nd⟩
  have hlt : ∀ x ∈ id :: m.nodes, x < m.n := fun x hx => by
    rcases List.mem_cons.1 hx with rfl | h
    · exact hid
    · exact G.c.lt x h
  have hlen := nodup_into hnd (l' := List.range m.n) fun x hx => List.mem_range.2 (hlt x hx)
  rw [List.length_range, List.length_cons, nodes_len] at hlen
  have hmap : ((putR m.l id c).map Prod.fst).Perm (id :: m.nodes) := hp.map Prod.fst
  exact ⟨⟨G.c.n1, G.c.n8, by simp only [put_len]; omega, hmap.nodup_iff.2 hnd, fun x hx => hlt x (hmap.mem_iff.1 hx)⟩, put_srt G.srt id c, fun p hp' => by
    rcases List.mem_cons.1 (hp.mem_iff.1 hp') with rfl | h
    · exact hc
    · exact G.bd p h⟩
theorem GoodR.rem (G : GoodR m) (z : Int) : GoodR (m.rem z) := by
  refine ⟨G.c.rem z, ?_, ?_⟩
  · unfold CSt.rem
    cases placeC m.l z with
    | none => exact G.srt
    | some i => exact G.srt.sublist (rem_sub m.l i)
  · unfold CSt.rem
    cases placeC m.l z with
    | none => exact G.bd
    | some i => exact fun p hp => G.bd p ((rem_sub m.l i).subset hp)
/-- A removed element is nowhere. -/
theorem rem_gone (G : GoodC m) (hp : placeC m.l z = some i) : placeC (remC m.l i) z = none := by
  obtain ⟨q, hq, hq1, hi⟩ := place_some hp
  cases h : placeC (remC m.l i) z with
  | none => rfl
  | some j =>
    exfalso
    have h' : placeC ({ m with l := remC m.l i } : CSt Int).l z = some j := h
    obtain ⟨r, hr, hr1, _⟩ := place_some h'
    have hr' : (remC m.l i)[j]? = some r := hr
    have hid : r.1 = q.1 := by omega
    have e1 : m.nodes[i]? = some q.1 := by simp [CSt.nodes, hq]
    have hnd := G.nd
    unfold remC at hr'
    have hne : ∀ (x : Nat), x ≠ i → m.l[x]? = some r → False := fun x hx hxr => by
      have e2 : m.nodes[x]? = some q.1 := by simp [CSt.nodes, hxr, hid]
      obtain ⟨a, ea⟩ := List.getElem?_eq_some_iff.1 e1
      obtain ⟨b, eb⟩ := List.getElem?_eq_some_iff.1 e2
      rcases Nat.lt_or_ge i x with h2 | h2
      · exact List.pairwise_iff_getElem.1 hnd i x a b h2 (ea.trans eb.symm)
      · exact List.pairwise_iff_getElem.1 hnd x i b a (by omega) (eb.trans ea.symm)
    rcases Nat.lt_or_ge j i with h2 | h2
    · rw [List.getElem?_append_left (by rw [List.length_take]; omega), List.getElem?_take_of_lt h2] at hr'
      exact hne j (by omega) hr'
    · rw [List.getElem?_append_right (by rw [List.length_take]; omega), List.getElem?_drop] at hr'
      exact hne _ (by rw [List.length_take]; omega) hr'
theorem GoodR.insR (G : GoodR m) (z c : Int) (hc : 0 ≤ c) : GoodR (m.insR z c).2 := by
  unfold CSt.insR
  split
  · exact G
  · split
    · exact G
    · split
      · exact G
      · rename_i h1 h2 h3
        have hz : (z.toNat : Int) = z := by omega
        refine G.put (by omega) ?_ ⟨hc, by omega⟩
        rw [hz]
        exact Option.not_isSome_iff_eq_none.1 h2
theorem GoodR.raiseR (G : GoodR m) (z b : Int) (hb : 0 ≤ b) : GoodR (m.raiseR z b).2 := by
  unfold CSt.raiseR
  cases hp : placeC m.l z with
  | none => exact G
  | some i =>
    obtain ⟨q, hq, hq1, hi⟩ := place_some hp
    simp only [hq]
    have hqb := G.bd q (List.mem_of_getElem? hq)
    by_cases hf : fitsB q.2 b = true
    · rw [if_pos hf]
      have hf' : q.2 + b ≤ 9223372036854775808 := by unfold fitsB at hf; simpa using hf
      by_cases h0 : 0 < b
      · rw [if_pos h0]
        have GR := G.rem z
        have er : m.rem z = { m with l := remC m.l i } := by unfold CSt.rem; rw [hp]
        rw [er] at GR
        have hlt := G.c.lt q.1 (List.mem_map.2 ⟨q, List.mem_of_getElem? hq, rfl⟩)
        exact GR.put (m := { m with l := remC m.l i }) hlt (by rw [hq1]; exact rem_gone G.c hp) ⟨by omega, hf'⟩
      · rw [if_neg h0]; exact G
    · rw [if_neg hf]; exact G
end
end Go.Proofs.YtlfhkhnhcckajaaGreatDoor

/- The plain mathematics of a table as the program keeps it: its entries with the numbers of their elements, beside an order of the counts, an index from keys to numbers, and a row of elements. Conditions: none beyond those typed. -/
namespace Go.Proofs.YtlfhkhnhcckajaaGreatDoor
set_option linter.unusedVariables false
set_option linter.unusedSimpArgs false

/-- An entry and the number of its element. -/
abbrev Xn := Nat × En
def fndX (X : List Xn) (s : ByteArray) : Option Xn := X.find? fun x => decide (x.2.1 = s)
def delX (X : List Xn) (s : ByteArray) : List Xn := X.filter fun x => !decide (x.2.1 = s)
def icX (X : List Xn) : List (Nat × Int) := X.map fun x => (x.1, ctE x.2)
def eqC (c : Int) (p : Nat × Int) : Bool := decide (p.2 = c)
/-- An element: key, slack. -/
abbrev El := ByteArray × Int
def zeroEl : El := (⟨#[]⟩, 0)
def elOf (x : Xn) : El := (x.2.1, x.2.2.2)
/-- X: the entries in the order in which they got their counts. -/
structure LkO (n : Nat) (X : List Xn) (m : CSt Int) (M : MSt Int) (E : List El) : Prop where
  gm : GoodR m
  mn : m.n = n
  gM : GoodM M
  Mn : M.n = n
  n1 : 1 ≤ n ∧ n ≤ 64
  len : E.length = n
  lt : ∀ x ∈ X, x.1 < n
  ids : (X.map Prod.fst).Nodup
  keys : (X.map fun x => x.2.1).Nodup
  sz : ∀ x ∈ X, 0 < x.2.1.size ∧ x.2.1.size ≤ 281474976710656
  num : ∀ x ∈ X, 0 ≤ x.2.2.1 ∧ 0 ≤ x.2.2.2
  mlen : M.l.length = X.length
  map : ∀ s, M.look s = (fndX X s).map fun x => (x.1 : Int)
  ord : ∀ c, m.l.filter (eqC c) = (icX X).filter (eqC c)
  yes : ∀ x ∈ X, E[x.1]? = some (elOf x)
  no : ∀ i, i < n → i ∉ X.map Prod.fst → E[i]? = some zeroEl
section
variable {α : Type} {p : α → Bool} {l : List α} {i : Nat} {a : α}
theorem filter_one (hi : l[i]? = some a) (ha : p a = false) (hb : ∀ (j : Nat) (b : α), j ≠ i → l[j]? = some b → p b = true) : l.filter p = l.take i ++ l.drop (i + 1) := by
  obtain ⟨hl, he⟩ := List.getElem?_eq_some_iff.1 hi
  have hs : l = l.take i ++ a :: l.drop (i + 1) := by
    have := List.take_append_drop i l
    rw [List.drop_eq_getElem_cons hl, he] at this
    exact this.symm
  have h1 : (l.take i).filter p = l.take i := List.filter_eq_self.2 fun b hb' => by
    obtain ⟨j, hj⟩ := List.mem_iff_getElem?.1 hb'
    have hlt : j < i := by have := (List.getElem?_eq_some_iff.1 hj).1; rw [List.length_take] at this; omega
    rw [List.getElem?_take_of_lt hlt] at hj
    exact hb j b (by omega) hj
  have h2 : (l.drop (i + 1)).filter p = l.drop (i + 1) := List.filter_eq_self.2 fun b hb' => by
    obtain ⟨j, hj⟩ := List.mem_iff_getElem?.1 hb'
    rw [List.getElem?_drop] at hj
    exact hb _ b (by omega) hj
  conv => lhs; rw [hs]
  rw [List.filter_append, List.filter_cons, ha, h1, h2]
  simp
theorem nodup_at {β : Type} {f : α → β} (h : (l.map f).Nodup) {j : Nat} {b : α} (hi : l[i]? = some a) (hj : l[j]? = some b) (he : f a = f b) : i = j := by
  have e1 : (l.map f)[i]? = some (f a) := by rw [List.getElem?_map, hi]; rfl
  have e2 : (l.map f)[j]? = some (f a) := by rw [List.getElem?_map, hj, he]; rfl
  obtain ⟨x, hx⟩ := List.getElem?_eq_some_iff.1 e1
  obtain ⟨y, hy⟩ := List.getElem?_eq_some_iff.1 e2
  rcases Nat.lt_trichotomy i j with h2 | h2 | h2
  · exact absurd (hx.trans hy.symm) (List.pairwise_iff_getElem.1 h i j x y h2)
  · exact h2
  · exact absurd (hy.trans hx.symm) (List.pairwise_iff_getElem.1 h j i y x h2)
end
section
variable {n i j : Nat} {X : List Xn} {m : CSt Int} {M : MSt Int} {E : List El} {x y : Xn} {s : ByteArray} {e : En} {c w : Int} {l : List (Nat × Int)} {id : Nat}
theorem fndX_some (h : fndX X s = some x) : x ∈ X ∧ x.2.1 = s := by
  unfold fndX at h
  exact ⟨List.mem_of_find?_eq_some h, by simpa using List.find?_some h⟩
theorem fndX_none (h : fndX X s = none) : ∀ x ∈ X, x.2.1 ≠ s := fun x hx => by
  unfold fndX at h
  simpa using List.find?_eq_none.1 h x hx
theorem same_key (hk : (X.map fun x => x.2.1).Nodup) (hx : x ∈ X) (hy : y ∈ X) (he : x.2.1 = y.2.1) : x = y := by
  obtain ⟨i, hi⟩ := List.mem_iff_getElem?.1 hx
  obtain ⟨j, hj⟩ := List.mem_iff_getElem?.1 hy
  obtain rfl := nodup_at (f := fun x : Xn => x.2.1) hk hi hj he
  rw [hi] at hj; injection hj
theorem same_id (hk : (X.map Prod.fst).Nodup) (hx : x ∈ X) (hy : y ∈ X) (he : x.1 = y.1) : x = y := by
  obtain ⟨i, hi⟩ := List.mem_iff_getElem?.1 hx
  obtain ⟨j, hj⟩ := List.mem_iff_getElem?.1 hy
  obtain rfl := nodup_at (f := Prod.fst) hk hi hj he
  rw [hi] at hj; injection hj
theorem fndX_is (hk : (X.map fun x => x.2.1).Nodup) (hx : x ∈ X) (hs : x.2.1 = s) : fndX X s = some x := by
  cases h : fndX X s with
  | none => exact absurd hs (fndX_none h x hx)
  | some y =>
    obtain ⟨h1, h2⟩ := fndX_some h
    rw [same_key hk h1 hx (h2.trans hs.symm)]
theorem fndX_no (h : ∀ x ∈ X, x.2.1 ≠ s) : fndX X s = none := by
  unfold fndX
  exact List.find?_eq_none.2 fun x hx => by simpa using h x hx
/-- The entries alone. -/
theorem place_fndX : placeE (X.map Prod.snd) s = none ↔ fndX X s = none := by
  constructor
  · intro h
    exact fndX_no fun x hx => placeE_none h x.2 (List.mem_map.2 ⟨x, hx, rfl⟩)
  · intro h
    unfold placeE
    rw [List.findIdx?_eq_none_iff]
    intro e he
    obtain ⟨x, hx, rfl⟩ := List.mem_map.1 he
    simpa using fndX_none h x hx
theorem place_someX (hk : (X.map fun x => x.2.1).Nodup) (h : placeE (X.map Prod.snd) s = some i) : ∃ x, X[i]? = some x ∧ fndX X s = some x ∧ (X.map Prod.snd)[i]? = some x.2 := by
  obtain ⟨e, h1, h2, h3⟩ := placeE_some h
  rw [List.getElem?_map] at h1
  cases hx : X[i]? with
  | none => rw [hx] at h1; cases h1
  | some x =>
    rw [hx] at h1
    have h1' : x.2 = e := by injection h1
    exact ⟨x, rfl, fndX_is hk (List.mem_of_getElem? hx) (by rw [h1']; exact h2), by rw [List.getElem?_map, hx]; rfl⟩
theorem delX_at (hk : (X.map fun x => x.2.1).Nodup) (hi : X[i]? = some x) : (delX X x.2.1).map Prod.snd = withoutE (X.map Prod.snd) i := by
  have h := filter_one (p := fun y : Xn => !decide (y.2.1 = x.2.1)) hi (by simp) fun j b hj hb => by
    simp only [Bool.not_eq_true', decide_eq_false_iff_not]
    exact fun he => hj (nodup_at (f := fun x : Xn => x.2.1) hk hb hi he)
  unfold delX withoutE
  rw [h, List.map_append, List.map_take, List.map_drop]
theorem mem_delX : x ∈ delX X s ↔ x ∈ X ∧ x.2.1 ≠ s := by unfold delX; simp [List.mem_filter]
theorem delX_sub : (delX X s).Sublist X := List.filter_sublist
theorem delX_len (hk : (X.map fun x => x.2.1).Nodup) (h : fndX X s = some x) : (delX X s).length + 1 = X.length := by
  obtain ⟨hx, rfl⟩ := fndX_some h
  obtain ⟨i, hi⟩ := List.mem_iff_getElem?.1 hx
  have h1 := congrArg List.length (delX_at hk hi)
  rw [List.length_map] at h1
  have h2 : (X.map Prod.snd)[i]? = some x.2 := by rw [List.getElem?_map, hi]; rfl
  have h3 := (without_at h2).1
  rw [List.length_map] at h3
  omega
theorem remC_filter {α : Type} {l : List (Nat × α)} {p : Nat × α} (hn : (l.map Prod.fst).Nodup) (hi : l[i]? = some p) : remC l i = l.filter fun q => !decide (q.1 = p.1) := by
  rw [filter_one (p := fun q : Nat × α => !decide (q.1 = p.1)) hi (by simp) fun j b hj hb => by
    simp only [Bool.not_eq_true', decide_eq_false_iff_not]
    exact fun he => hj (nodup_at (f := Prod.fst) hn hb hi he)]
  rfl
theorem LkO.mem (L : LkO n X m M E) (p : Nat × Int) : p ∈ m.l ↔ p ∈ icX X := by
  have h := L.ord p.2
  have h1 : p ∈ m.l.filter (eqC p.2) ↔ p ∈ (icX X).filter (eqC p.2) := by rw [h]
  rw [List.mem_filter, List.mem_filter] at h1
  have h2 : eqC p.2 p = true := decide_eq_true rfl
  constructor
  · intro hp; exact (h1.1 ⟨hp, h2⟩).1
  · intro hp; exact (h1.2 ⟨hp, h2⟩).1
theorem mem_icX {p : Nat × Int} : p ∈ icX X ↔ ∃ x ∈ X, (x.1, ctE x.2) = p := by unfold icX; exact List.mem_map
theorem LkO.ct (L : LkO n X m M E) (hx : x ∈ X) : (x.1, ctE x.2) ∈ m.l := (L.mem _).2 (mem_icX.2 ⟨x, hx, rfl⟩)
theorem LkO.bd (L : LkO n X m M E) (hx : x ∈ X) : 0 ≤ x.2.2.1 ∧ 0 ≤ x.2.2.2 ∧ ctE x.2 ≤ 9223372036854775808 := ⟨(L.num x hx).1, (L.num x hx).2, (L.gm.bd _ (L.ct hx)).2⟩
/-- The place of an element in the order. -/
theorem LkO.place (L : LkO n X m M E) (hx : x ∈ X) : ∃ i, placeC m.l (x.1 : Int) = some i ∧ m.l[i]? = some (x.1, ctE x.2) := by
  obtain ⟨i, hi⟩ := List.mem_iff_getElem?.1 (L.ct hx)
  exact ⟨i, place_is L.gm.c hi, hi⟩
theorem LkO.count (L : LkO n X m M E) (hx : x ∈ X) : m.countR (x.1 : Int) = (ctE x.2, true) := by
  obtain ⟨i, h1, h2⟩ := L.place hx
  unfold CSt.countR CSt.value
  rw [h1]
  show (((m.l[i]?.map Prod.snd).getD 0), true) = _
  rw [h2]; rfl
theorem LkO.free (L : LkO n X m M E) (hi : id ∉ X.map Prod.fst) : placeC m.l (id : Int) = none := by
  cases h : placeC m.l (id : Int) with
  | none => rfl
  | some i =>
    obtain ⟨p, h1, h2, _⟩ := place_some h
    obtain ⟨x, hx, hp⟩ := mem_icX.1 ((L.mem p).1 (List.mem_of_getElem? h1))
    refine absurd (List.mem_map.2 ⟨x, hx, ?_⟩) hi
    rw [← hp] at h2
    have h3 : (x.1 : Int) = (id : Int) := h2
    omega
theorem LkO.get (L : LkO n X m M E) (h : fndX X s = some x) : M.look s = some (x.1 : Int) := by rw [L.map, h]; rfl
theorem LkO.miss (L : LkO n X m M E) (h : fndX X s = none) : M.look s = none := by rw [L.map, h]; rfl
/-- A new element. -/
theorem filter_put (hs : l.Pairwise fun p q => p.2 ≤ q.2) (d : Int) : (putR l id c).filter (eqC d) = l.filter (eqC d) ++ [(id, c)].filter (eqC d) := by
  unfold putR
  conv => rhs; rw [← List.take_append_drop (posR l c) l]
  rw [List.filter_append, List.filter_append, List.filter_cons, List.append_assoc]
  congr 1
  by_cases hd : eqC d (id, c) = true
  · have hcd : c = d := by unfold eqC at hd; simpa using hd
    have hn : (l.drop (posR l c)).filter (eqC d) = [] := List.filter_eq_nil_iff.2 fun p hp => by
      obtain ⟨i, hi⟩ := List.mem_iff_getElem?.1 hp
      rw [List.getElem?_drop] at hi
      obtain ⟨q, hq⟩ : ∃ q, l[posR l c]? = some q := ⟨_, List.getElem?_eq_getElem (by have := (List.getElem?_eq_some_iff.1 hi).1; omega)⟩
      have h1 := pos_at hq
      have h2 : q.2 ≤ p.2 := by
        rcases Nat.eq_or_lt_of_le (Nat.le_add_right (posR l c) i) with h3 | h3
        · rw [← h3, hq] at hi; injection hi with hi; rw [hi]; exact Int.le_refl _
        · obtain ⟨a, ha⟩ := List.getElem?_eq_some_iff.1 hq
          obtain ⟨b, hb⟩ := List.getElem?_eq_some_iff.1 hi
          have := List.pairwise_iff_getElem.1 hs _ _ a b h3
          rw [ha, hb] at this; exact this
      unfold eqC
      simp only [decide_eq_true_eq]
      omega
    rw [hn, hd]
    simp [hd]
  · have hd' : eqC d (id, c) = false := by simpa using hd
    rw [hd']
    simp [hd']
theorem LkO.few (L : LkO n X m M E) : X.length ≤ n := by
  have := nodup_into L.ids (l' := List.range n) fun x hx => by
    obtain ⟨y, hy, rfl⟩ := List.mem_map.1 hx
    exact List.mem_range.2 (L.lt y hy)
  rw [List.length_range, List.length_map] at this
  exact this
/-- Room: some element is free. -/
theorem LkO.room (L : LkO n X m M E) (h : X.length < n) : ∃ i, i < n ∧ i ∉ X.map Prod.fst := by
  refine Classical.byContradiction fun hc => ?_
  have h1 : ∀ x ∈ List.range n, x ∈ X.map Prod.fst := fun x hx => Classical.byContradiction fun hn => hc ⟨x, List.mem_range.1 hx, hn⟩
  have := nodup_into List.nodup_range h1
  rw [List.length_range, List.length_map] at this
  omega
theorem LkO.zero (L : LkO n X m M E) (hi : E[i]? = some zeroEl) : i < n ∧ i ∉ X.map Prod.fst := by
  have hl := (List.getElem?_eq_some_iff.1 hi).1
  refine ⟨by have := L.len; omega, fun hm => ?_⟩
  obtain ⟨x, hx, rfl⟩ := List.mem_map.1 hm
  have h1 := L.yes x hx
  rw [hi] at h1
  injection h1 with h1
  have h2 : x.2.1 = ⟨#[]⟩ := (congrArg Prod.fst h1).symm
  have h3 := (L.sz x hx).1
  rw [h2] at h3
  exact absurd h3 (by decide)
theorem nd_app {β : Type} {f : Xn → β} (h : (X.map f).Nodup) (hn : ∀ y ∈ X, f y ≠ f x) : ((X ++ [x]).map f).Nodup := by
  rw [List.map_append]
  refine List.nodup_append.2 ⟨h, by simp, fun a ha b hb hab => ?_⟩
  obtain ⟨y, hy, rfl⟩ := List.mem_map.1 ha
  simp at hb
  exact hn y hy (by rw [hab, hb])
theorem fndX_app (hn : fndX X x.2.1 = none) (s : ByteArray) : fndX (X ++ [x]) s = if s = x.2.1 then some x else fndX X s := by
  by_cases hs : s = x.2.1
  · rw [if_pos hs, hs]
    unfold fndX at hn ⊢
    rw [List.find?_append, hn]
    simp
  · rw [if_neg hs]
    unfold fndX
    rw [List.find?_append]
    have : [x].find? (fun x => decide (x.2.1 = s)) = none := by simp [Ne.symm hs]
    rw [this]
    cases X.find? (fun x => decide (x.2.1 = s)) <;> rfl
theorem fndX_del (s t : ByteArray) : fndX (delX X s) t = if t = s then none else fndX X t := by
  by_cases h : t = s
  · rw [if_pos h, h]
    exact fndX_no fun x hx => (mem_delX.1 hx).2
  · rw [if_neg h]
    unfold fndX delX
    rw [List.find?_filter]
    congr 1
    funext x
    by_cases hx : x.2.1 = t
    · simp [hx, h]
    · simp [hx]
theorem LkO.ins (L : LkO n X m M E) (hX : X.length < n) (hno : fndX X e.1 = none) (hz : E[i]? = some zeroEl) (hk : 0 < e.1.size ∧ e.1.size ≤ 281474976710656) (h1 : 0 ≤ e.2.1) (h2 : 0 ≤ e.2.2) (h3 : ctE e ≤ 9223372036854775808) :
    (m.insR (i : Int) (ctE e)).1 = 0 ∧ (M.put e.1 (i : Int)).1 = 0 ∧ LkO n (X ++ [(i, e)]) (m.insR (i : Int) (ctE e)).2 (M.put e.1 (i : Int)).2 (E.set i (elOf (i, e))) := by
  obtain ⟨hin, hni⟩ := L.zero hz
  have hc0 : 0 ≤ ctE e := by unfold ctE; omega
  have hf : m.insR (i : Int) (ctE e) = (0, { m with l := putR m.l i (ctE e) }) := by
    unfold CSt.insR
    have := L.mn
    rw [if_neg (by omega), L.free hni, if_neg (by simp), if_neg (by omega), Int.toNat_natCast]
  have hp := put_fresh (L.miss hno) (by have := L.Mn; have := L.mlen; omega) (i : Int)
  have hl := put_look L.gM e.1 (i : Int) hp.1
  have gm := L.gm.insR (i : Int) (ctE e) hc0
  rw [hf] at gm ⊢
  have hlenE := L.len
  refine ⟨rfl, hp.1, gm, L.mn, L.gM.put _ _, (put_n _ _ _).trans L.Mn, L.n1, by rw [List.length_set]; exact L.len, fun x hx => ?_, ?_, ?_, fun x hx => ?_, fun x hx => ?_, ?_, fun s => ?_, fun c => ?_, fun x hx => ?_, fun j hj hn => ?_⟩
  · rcases List.mem_append.1 hx with h | h
    · exact L.lt x h
    · rw [List.mem_singleton.1 h]; exact hin
  · exact nd_app L.ids fun y hy he => hni (List.mem_map.2 ⟨y, hy, he⟩)
  · exact nd_app (f := fun x : Xn => x.2.1) L.keys fun y hy he => fndX_none hno y hy he
  · rcases List.mem_append.1 hx with h | h
    · exact L.sz x h
    · rw [List.mem_singleton.1 h]; exact hk
  · rcases List.mem_append.1 hx with h | h
    · exact L.num x h
    · rw [List.mem_singleton.1 h]; exact ⟨h1, h2⟩
  · rw [hp.2, List.length_append, L.mlen]; rfl
  · rw [hl s, fndX_app (x := (i, e)) hno]
    by_cases hs : s = e.1
    · rw [if_pos hs, if_pos hs]; rfl
    · rw [if_neg hs, if_neg hs]; exact L.map s
  · show (putR m.l i (ctE e)).filter (eqC c) = _
    rw [filter_put L.gm.srt, L.ord c]
    unfold icX
    rw [List.map_append, List.filter_append]
    rfl
  · rw [List.getElem?_set]
    rcases List.mem_append.1 hx with h | h
    · rw [if_neg (fun he => hni (List.mem_map.2 ⟨x, h, he.symm⟩))]
      exact L.yes x h
    · rw [List.mem_singleton.1 h, if_pos rfl, if_pos (by omega)]
  · rw [List.map_append] at hn
    rw [List.getElem?_set, if_neg (fun he => hn (List.mem_append.2 (.inr (by simp [he]))))]
    exact L.no j hj fun h => hn (List.mem_append.2 (.inl h))
/-- Elements but one. -/
theorem icX_del (L : LkO n X m M E) (hx : fndX X s = some x) : (icX X).filter (fun q => !decide (q.1 = x.1)) = icX (delX X s) := by
  obtain ⟨hm, hs⟩ := fndX_some hx
  unfold icX delX
  rw [List.filter_map]
  congr 1
  refine List.filter_congr fun y hy => ?_
  show (!decide (y.1 = x.1)) = !decide (y.2.1 = s)
  by_cases h : y.1 = x.1
  · have := same_id L.ids hy hm h
    rw [this]; simp [hs]
  · have h2 : y.2.1 ≠ s := fun he => h (by rw [same_key L.keys hy hm (he.trans hs.symm)])
    simp [h, h2]
theorem filter_swap {α : Type} (p q : α → Bool) (l : List α) : (l.filter p).filter q = (l.filter q).filter p := by
  rw [List.filter_filter, List.filter_filter]
  exact List.filter_congr fun a _ => Bool.and_comm _ _
theorem LkO.rem (L : LkO n X m M E) (hx : fndX X s = some x) : LkO n (delX X s) (m.rem (x.1 : Int)) (M.del s) (E.set x.1 zeroEl) ∧ (∃ j, placeC m.l (x.1 : Int) = some j ∧ m.l[j]? = some (x.1, ctE x.2) ∧ m.rem (x.1 : Int) = { m with l := remC m.l j }) := by
  obtain ⟨hm, hs⟩ := fndX_some hx
  obtain ⟨j, hp, hj⟩ := L.place hm
  have hr : m.rem (x.1 : Int) = { m with l := remC m.l j } := by unfold CSt.rem; rw [hp]
  have hf := remC_filter L.gm.c.nd hj
  have gm := L.gm.rem (x.1 : Int)
  have hd := del_look L.gM s
  have hg := del_gone L.gM (L.get hx)
  refine ⟨⟨gm, by rw [hr]; exact L.mn, L.gM.del s, (del_n _ _).trans L.Mn, L.n1, by rw [List.length_set]; exact L.len, fun y hy => L.lt y (mem_delX.1 hy).1, L.ids.sublist (delX_sub.map _), L.keys.sublist (delX_sub.map _), fun y hy => L.sz y (mem_delX.1 hy).1, fun y hy => L.num y (mem_delX.1 hy).1, ?_, fun t => ?_, fun c => ?_, fun y hy => ?_, fun i hi hn => ?_⟩, j, hp, hj, hr⟩
  · have := delX_len L.keys hx
    have := L.mlen
    omega
  · rw [hd t, fndX_del]
    by_cases h : t = s
    · rw [if_pos h, if_pos h]; rfl
    · rw [if_neg h, if_neg h]; exact L.map t
  · rw [hr]
    show (remC m.l j).filter (eqC c) = _
    rw [hf, filter_swap, L.ord c, filter_swap, icX_del L hx]
  · obtain ⟨h1, h2⟩ := mem_delX.1 hy
    rw [List.getElem?_set, if_neg (fun he => h2 (by rw [same_id L.ids h1 hm he.symm]; exact hs))]
    exact L.yes y h1
  · rw [List.getElem?_set]
    by_cases he : x.1 = i
    · have := L.len
      rw [if_pos he, if_pos (by omega)]
    · rw [if_neg he]
      refine L.no i hi fun h => ?_
      obtain ⟨y, hy, rfl⟩ := List.mem_map.1 h
      exact hn (List.mem_map.2 ⟨y, mem_delX.2 ⟨hy, fun hys => he (by rw [same_key L.keys hm hy (hs.trans hys.symm)])⟩, rfl⟩)
/-- A weight is added to an element. -/
def upX (x : Xn) (w : Int) : Xn := (x.1, x.2.1, x.2.2.1 + w, x.2.2.2)
theorem ct_up (x : Xn) (w : Int) : ctE (upX x w).2 = ctE x.2 + w := by
  show (x.2.2.1 + w) + x.2.2.2 = (x.2.2.1 + x.2.2.2) + w
  omega
theorem LkO.raise (L : LkO n X m M E) (hx : fndX X s = some x) (hw : 0 < w) (hf : ctE x.2 + w ≤ 9223372036854775808) :
    (m.raiseR (x.1 : Int) w).1 = 0 ∧ LkO n (delX X s ++ [upX x w]) (m.raiseR (x.1 : Int) w).2 M E := by
  obtain ⟨hm, hs⟩ := fndX_some hx
  obtain ⟨R, j, hp, hj, hr⟩ := L.rem hx
  have hE : m.raiseR (x.1 : Int) w = (0, { m with l := putR (remC m.l j) x.1 (ctE x.2 + w) }) := by
    unfold CSt.raiseR
    rw [hp]
    simp only [hj]
    rw [show fitsB (ctE x.2) w = true from decide_eq_true hf, if_pos rfl, if_pos hw]
  have gm := L.gm.raiseR (x.1 : Int) w (by omega)
  have R2 := R.gm.srt
  have R3 := R.ord
  rw [hr] at R2 R3
  rw [hE] at gm ⊢
  have hnox : ∀ y ∈ delX X s, y.1 ≠ x.1 := fun y hy he => (mem_delX.1 hy).2 (by rw [same_id L.ids (mem_delX.1 hy).1 hm he]; exact hs)
  refine ⟨rfl, gm, L.mn, L.gM, L.Mn, L.n1, L.len, fun y hy => ?_, ?_, ?_, fun y hy => ?_, fun y hy => ?_, ?_, fun t => ?_, fun c => ?_, fun y hy => ?_, fun i hi hn => ?_⟩
  · rcases List.mem_append.1 hy with h | h
    · exact R.lt y h
    · rw [List.mem_singleton.1 h]; exact L.lt x hm
  · exact nd_app R.ids fun y hy => hnox y hy
  · exact nd_app (f := fun x : Xn => x.2.1) R.keys fun y hy he => (mem_delX.1 hy).2 (he.trans hs)
  · rcases List.mem_append.1 hy with h | h
    · exact R.sz y h
    · rw [List.mem_singleton.1 h]; exact L.sz x hm
  · rcases List.mem_append.1 hy with h | h
    · exact R.num y h
    · rw [List.mem_singleton.1 h]
      have := L.num x hm
      exact ⟨by show 0 ≤ x.2.2.1 + w; omega, this.2⟩
  · rw [List.length_append, L.mlen]
    have := delX_len L.keys hx
    simp; omega
  · have hk : (upX x w).2.1 = s := hs
    rw [fndX_app (x := upX x w) (by rw [hk, fndX_del, if_pos rfl]), fndX_del, hk, L.map]
    by_cases h : t = s
    · rw [if_pos h, h, hx]; rfl
    · rw [if_neg h, if_neg h]
  · show (putR (remC m.l j) x.1 (ctE x.2 + w)).filter (eqC c) = _
    rw [filter_put R2, R3 c]
    unfold icX
    rw [List.map_append, List.filter_append]
    show _ ++ [(x.1, ctE x.2 + w)].filter (eqC c) = _ ++ [(x.1, ctE (upX x w).2)].filter (eqC c)
    rw [ct_up]
  · rcases List.mem_append.1 hy with h | h
    · exact L.yes y (mem_delX.1 h).1
    · rw [List.mem_singleton.1 h]; exact L.yes x hm
  · refine L.no i hi fun h => ?_
    obtain ⟨y, hy, rfl⟩ := List.mem_map.1 h
    refine hn (List.mem_map.2 ?_)
    by_cases he : y.2.1 = s
    · exact ⟨upX x w, List.mem_append.2 (.inr (List.mem_singleton.2 rfl)), by rw [same_key L.keys hy hm (he.trans hs.symm)]; rfl⟩
    · exact ⟨y, List.mem_append.2 (.inl (mem_delX.2 ⟨hy, he⟩)), rfl⟩
/-- The first of those with the least count leads the order. -/
theorem LkO.least (L : LkO n X m M E) (h0 : 0 < X.length) : ∃ x, X[leastE (X.map Prod.snd)]? = some x ∧ m.leastR = (((x.1 : Int), ctE x.2), true) := by
  obtain ⟨h1, h2, h3⟩ := leastTo_spec (l := X.map Prod.snd) (X.map Prod.snd).length (by simpa using h0) (Nat.le_refl _)
  have h1' : leastE (X.map Prod.snd) < X.length := by
    have h4 : leastE (X.map Prod.snd) < (X.map Prod.snd).length := h1
    rwa [List.length_map] at h4
  obtain ⟨x, hx⟩ : ∃ x, X[leastE (X.map Prod.snd)]? = some x := ⟨_, List.getElem?_eq_getElem h1'⟩
  have hat : ∀ (j : Nat) (y : Xn), X[j]? = some y → ctAt (X.map Prod.snd) j = ctE y.2 := fun j y hy => ctAt_at (by rw [List.getElem?_map, hy]; rfl)
  refine ⟨x, hx, ?_⟩
  cases hl : m.l with
  | nil =>
    have := L.ct (List.mem_of_getElem? hx)
    rw [hl] at this; cases this
  | cons p r =>
    have hs := L.gm.srt
    rw [hl] at hs
    have hmin : ∀ q ∈ m.l, p.2 ≤ q.2 := fun q hq => by
      rw [hl] at hq
      rcases List.mem_cons.1 hq with rfl | h
      · exact Int.le_refl _
      · exact (List.pairwise_cons.1 hs).1 q h
    obtain ⟨y, hy, hyp⟩ := mem_icX.1 ((L.mem p).1 (by rw [hl]; simp))
    have hc : ctE x.2 = p.2 := by
      have a1 := hmin _ (L.ct (List.mem_of_getElem? hx))
      obtain ⟨j, hj⟩ := List.mem_iff_getElem?.1 hy
      have a2 := h2 j (by have := (List.getElem?_eq_some_iff.1 hj).1; simpa using this)
      rw [hat j y hj, show leastTo (X.map Prod.snd) (X.map Prod.snd).length = leastE (X.map Prod.snd) from rfl, hat _ x hx] at a2
      rw [← hyp] at a1 ⊢
      exact Int.le_antisymm a2 a1
    have ho := L.ord p.2
    rw [hl, List.filter_cons, show eqC p.2 p = true from decide_eq_true rfl, if_pos rfl] at ho
    have hf : (icX X).find? (eqC p.2) = some p := by
      rw [← List.head?_filter, ← ho]; rfl
    have hg : (icX X).find? (eqC p.2) = some (x.1, ctE x.2) := by
      rw [List.find?_eq_some_iff_getElem]
      refine ⟨decide_eq_true hc, leastE (X.map Prod.snd), by unfold icX; rw [List.length_map]; exact h1', ?_, fun j hj => ?_⟩
      · have : (icX X)[leastE (X.map Prod.snd)]? = some (x.1, ctE x.2) := by unfold icX; rw [List.getElem?_map, hx]; rfl
        exact (List.getElem?_eq_some_iff.1 this).2
      · have hjl : j < X.length := by omega
        have a1 := h3 j hj
        rw [hat j X[j] (List.getElem?_eq_getElem hjl), show leastTo (X.map Prod.snd) (X.map Prod.snd).length = leastE (X.map Prod.snd) from rfl, hat _ x hx, hc] at a1
        have a2 : (icX X)[j]? = some (X[j].1, ctE X[j].2) := by unfold icX; rw [List.getElem?_map, List.getElem?_eq_getElem hjl]; rfl
        obtain ⟨_, a3⟩ := List.getElem?_eq_some_iff.1 a2
        rw [a3]
        unfold eqC
        simp only [Bool.not_eq_true', decide_eq_false_iff_not]
        omega
    rw [hf] at hg
    injection hg with hg
    unfold CSt.leastR
    rw [hl, hg]
theorem LkO.new {n : Nat} (h : 1 ≤ n ∧ n ≤ 64) : LkO n [] (newC Int n) (newM Int n) (List.replicate n zeroEl) :=
  ⟨⟨newC_good h.1 (by omega), List.Pairwise.nil, fun p hp => by cases hp⟩, rfl, newM_good h.1 (by omega), rfl, h, List.length_replicate, fun x hx => (by cases hx), List.nodup_nil, List.nodup_nil, fun x hx => (by cases hx), fun x hx => (by cases hx), rfl, fun s => rfl, fun c => rfl, fun x hx => (by cases hx), fun i hi _ => by rw [List.getElem?_replicate, if_pos hi]⟩
theorem LkO.rlen (L : LkO n X m M E) : m.l.length = X.length := by
  have h1 : m.l.Perm (icX X) := List.perm_iff_count.2 fun p => by
    have h := congrArg (List.count p) (L.ord p.2)
    have hc : eqC p.2 p = true := decide_eq_true rfl
    rwa [List.count_filter hc, List.count_filter hc] at h
  rw [h1.length_eq]
  exact List.length_map ..
end
end Go.Proofs.YtlfhkhnhcckajaaGreatDoor
