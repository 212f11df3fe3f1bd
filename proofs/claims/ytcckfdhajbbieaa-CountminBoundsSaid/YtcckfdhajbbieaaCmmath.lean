/- Sketches (rows of counters with conservative update) as plain data; ix tells the place of a key in a row. Conditions: none beyond those typed. -/
import Derived.Test.YtcckfdhajbbieaaSvgood
namespace Go.Proofs.Ytcckfdhajbbieaa
set_option linter.unusedVariables false
set_option linter.unusedSimpArgs false

/-- The place of a key, in a row by its number, of a row of some length. -/
abbrev Ix := ByteArray → Nat → Nat → Nat
def topU : Int := 18446744073709551615
def estAt (ix : Nat → Nat → Nat) : Nat → Int → List (List Int) → Int
  | _, n, [] => n
  | i, n, r :: rs => if r.length = 0 then 0 else estAt ix (i + 1) (min n (r.getD (ix i r.length) 0)) rs
def putAt (ix : Nat → Nat → Nat) (n : Int) : Nat → List (List Int) → List (List Int)
  | _, [] => []
  | i, r :: rs => r.set (ix i r.length) (max (r.getD (ix i r.length) 0) n) :: putAt ix n (i + 1) rs
structure KSt where
  rows : List (List Int)
  sum : Int
def estK (ix : Ix) (rows : List (List Int)) (k : ByteArray) : Int := if rows.length = 0 then 0 else estAt (ix k) 0 topU rows
def KSt.add (ix : Ix) (s : KSt) (k : ByteArray) (w : Int) : Int × KSt :=
  if k.size = 0 then (3, s) else if w = 0 then (1, s) else if fitsB s.sum w = false then (12, s) else (0, ⟨putAt (ix k) (estK ix s.rows k + w) 0 s.rows, s.sum + w⟩)
def newK (depth width : Nat) : KSt := ⟨List.replicate depth (List.replicate width 0), 0⟩
/-- Rows of n counters, none above the sum. -/
structure GoodK (n : Nat) (s : KSt) : Prop where
  n1 : 1 ≤ n
  ne : 1 ≤ s.rows.length
  len : ∀ r ∈ s.rows, r.length = n
  bd : ∀ r ∈ s.rows, ∀ x ∈ r, 0 ≤ x ∧ x ≤ s.sum
  sum0 : 0 ≤ s.sum
  top : s.sum ≤ 9223372036854775808
section
variable {f : Nat → Nat → Nat} {ix : Ix} {i j n d : Nat} {m v w x : Int} {rs : List (List Int)} {r : List Int} {s : KSt} {k k' : ByteArray}
theorem getD_bd (h : ∀ x ∈ r, 0 ≤ x ∧ x ≤ m) (h0 : 0 ≤ m) (j : Nat) : 0 ≤ r.getD j 0 ∧ r.getD j 0 ≤ m := by
  rw [List.getD_eq_getElem?_getD]
  cases hj : r[j]? with
  | none => exact ⟨Int.le_refl _, h0⟩
  | some x => exact h x (List.mem_of_getElem? hj)
theorem est_le (h0 : 0 ≤ m) (hr : ∀ r ∈ rs, ∀ x ∈ r, 0 ≤ x) : estAt f i m rs ≤ m := by
  induction rs generalizing i m with
  | nil => exact Int.le_refl _
  | cons r rs ih =>
    unfold estAt
    split
    · exact h0
    · have h1 : 0 ≤ r.getD (f i r.length) 0 := by
        rw [List.getD_eq_getElem?_getD]
        cases hj : r[f i r.length]? with
        | none => exact Int.le_refl _
        | some x => exact hr r (by simp) x (List.mem_of_getElem? hj)
      exact Int.le_trans (ih (by omega) fun q hq => hr q (by simp [hq])) (by omega)
theorem est_ge (hv : v ≤ m) (h : ∀ (j : Nat) (r : List Int), rs[j]? = some r → r.length ≠ 0 ∧ v ≤ r.getD (f (i + j) r.length) 0) : v ≤ estAt f i m rs := by
  induction rs generalizing i m with
  | nil => exact hv
  | cons r rs ih =>
    obtain ⟨h1, h2⟩ := h 0 r rfl
    unfold estAt
    rw [if_neg h1]
    refine ih (by have h2' : v ≤ r.getD (f i r.length) 0 := h2; omega) fun j q hq => ?_
    have := h (j + 1) q hq
    rw [show i + 1 + j = i + (j + 1) by omega]
    exact this
theorem est_row (hr : ∀ r ∈ rs, r.length ≠ 0 ∧ ∀ x ∈ r, 0 ≤ x) (h0 : 0 ≤ m) (hj : rs[j]? = some r) : estAt f i m rs ≤ r.getD (f (i + j) r.length) 0 := by
  induction rs generalizing i m j with
  | nil => simp at hj
  | cons q rs ih =>
    have hq := hr q (by simp)
    have h1 : 0 ≤ q.getD (f i q.length) 0 := by
      rw [List.getD_eq_getElem?_getD]
      cases hj : q[f i q.length]? with
      | none => exact Int.le_refl _
      | some x => exact hq.2 x (List.mem_of_getElem? hj)
    unfold estAt
    rw [if_neg hq.1]
    cases j with
    | zero =>
      injection hj with hj; subst hj
      exact Int.le_trans (est_le (by omega) fun p hp => (hr p (by simp [hp])).2) (by show _ ≤ q.getD (f (i + 0) q.length) 0; rw [Nat.add_zero]; omega)
    | succ j =>
      have := ih (i := i + 1) (m := min m (q.getD (f i q.length) 0)) (j := j) (fun p hp => hr p (by simp [hp])) (by omega) (by simpa using hj)
      rw [show i + (j + 1) = i + 1 + j by omega]
      exact this
theorem put_len : (putAt f m i rs).length = rs.length := by
  induction rs generalizing i with
  | nil => rfl
  | cons r rs ih => show (putAt f m (i + 1) rs).length + 1 = rs.length + 1; rw [ih]
theorem put_at : (putAt f m i rs)[j]? = (rs[j]?).map fun r => r.set (f (i + j) r.length) (max (r.getD (f (i + j) r.length) 0) m) := by
  induction rs generalizing i j with
  | nil => simp [putAt]
  | cons r rs ih =>
    cases j with
    | zero => simp [putAt]
    | succ j =>
      show (putAt f m (i + 1) rs)[j]? = _
      rw [ih, show i + 1 + j = i + (j + 1) by omega]
      rfl
theorem put_at0 (h : (putAt f m 0 rs)[j]? = some r) : ∃ q, rs[j]? = some q ∧ r = q.set (f j q.length) (max (q.getD (f j q.length) 0) m) := by
  rw [put_at] at h
  cases hq : rs[j]? with
  | none => rw [hq] at h; cases h
  | some q =>
    rw [hq] at h
    injection h with h
    refine ⟨q, rfl, ?_⟩
    rw [← h, Nat.zero_add]
theorem set_getD {v : Int} (hi : i < r.length) (j : Nat) : (r.set i v).getD j 0 = if j = i then v else r.getD j 0 := by
  rw [List.getD_eq_getElem?_getD, List.getD_eq_getElem?_getD, List.getElem?_set]
  by_cases h : i = j
  · subst h; rw [if_pos rfl, if_pos hi, if_pos rfl]; rfl
  · rw [if_neg h, if_neg (fun e => h e.symm)]
/-- What Add does when it does not refuse. -/
theorem add_okK (h : k.size ≠ 0) (hw : w ≠ 0) (hf : fitsB s.sum w = true) : s.add ix k w = (0, ⟨putAt (ix k) (estK ix s.rows k + w) 0 s.rows, s.sum + w⟩) := by
  unfold KSt.add
  rw [if_neg h, if_neg hw, if_neg (by rw [hf]; exact Bool.noConfusion)]
theorem add_noK (h : (s.add ix k w).1 ≠ 0) : (s.add ix k w).2 = s := by
  unfold KSt.add at h ⊢
  split
  · rfl
  split
  · rfl
  split
  · rfl
  · rename_i h1 h2 h3
    rw [if_neg h1, if_neg h2, if_neg h3] at h
    exact absurd rfl h
theorem GoodK.est_bd (G : GoodK n s) (k : ByteArray) : 0 ≤ estK ix s.rows k ∧ estK ix s.rows k ≤ s.sum := by
  have hs := G.ne
  have hn := G.n1
  have hpos : ∀ r ∈ s.rows, r.length ≠ 0 ∧ ∀ x ∈ r, 0 ≤ x := fun r hr => ⟨by rw [G.len r hr]; omega, fun x hx => (G.bd r hr x hx).1⟩
  unfold estK
  rw [if_neg (by omega)]
  refine ⟨est_ge (by unfold topU; decide) fun j r hj => ?_, ?_⟩
  · have hm := List.mem_of_getElem? hj
    exact ⟨(hpos r hm).1, (getD_bd (G.bd r hm) G.sum0 _).1⟩
  · obtain ⟨r, hr⟩ : ∃ r, s.rows[0]? = some r := ⟨_, List.getElem?_eq_getElem (by omega)⟩
    exact Int.le_trans (est_row hpos (by unfold topU; decide) hr) (getD_bd (G.bd r (List.mem_of_getElem? hr)) G.sum0 _).2
theorem GoodK.add (G : GoodK n s) (k : ByteArray) (hw : 0 ≤ w) : GoodK n (s.add ix k w).2 := by
  by_cases h : k.size = 0
  · unfold KSt.add; rw [if_pos h]; exact G
  by_cases h0 : w = 0
  · unfold KSt.add; rw [if_neg h, if_pos h0]; exact G
  cases hf : fitsB s.sum w with
  | false => unfold KSt.add; rw [if_neg h, if_neg h0, if_pos hf]; exact G
  | true =>
    have hsum := fits_le hf
    rw [add_okK h h0 hf]
    obtain ⟨e0, e1⟩ := G.est_bd (ix := ix) k
    have hrow : ∀ r ∈ putAt (ix k) (estK ix s.rows k + w) 0 s.rows, ∃ (q : List Int) (j : Nat), q ∈ s.rows ∧ r = q.set j (max (q.getD j 0) (estK ix s.rows k + w)) := fun r hr => by
      obtain ⟨j, hj⟩ := List.mem_iff_getElem?.1 hr
      rw [put_at] at hj
      cases hq : s.rows[j]? with
      | none => rw [hq] at hj; cases hj
      | some q =>
        rw [hq] at hj
        injection hj with hj
        exact ⟨q, _, List.mem_of_getElem? hq, hj.symm⟩
    have hs0 := G.sum0
    refine ⟨G.n1, by show 1 ≤ (putAt _ _ _ _).length; rw [put_len]; exact G.ne, fun r hr => ?_, fun r hr x hx => ?_, by show 0 ≤ s.sum + w; omega, hsum⟩
    · obtain ⟨q, j, hq, rfl⟩ := hrow r hr
      rw [List.length_set]; exact G.len q hq
    · obtain ⟨q, j, hq, rfl⟩ := hrow r hr
      show 0 ≤ x ∧ x ≤ s.sum + w
      rcases List.mem_or_eq_of_mem_set hx with h1 | h1
      · have := G.bd q hq x h1; omega
      · have := getD_bd (G.bd q hq) G.sum0 j
        rw [h1]; omega
/-- The counters of a key do not fall; those of the added key hold the new estimate. -/
theorem GoodK.grow (G : GoodK n s) (hix : ∀ i, ix k i n < n) (hw : 0 ≤ w) (hj : s.rows[j]? = some r) (c : Nat) :
    r.getD c 0 ≤ (r.set (ix k j r.length) (max (r.getD (ix k j r.length) 0) m)).getD c 0 ∧ (c = ix k j n → m ≤ (r.set (ix k j r.length) (max (r.getD (ix k j r.length) 0) m)).getD c 0) := by
  have hl := G.len r (List.mem_of_getElem? hj)
  have hi : ix k j r.length < r.length := by rw [hl]; exact hix j
  rw [set_getD hi]
  by_cases hc : c = ix k j r.length
  · rw [if_pos hc, hc]
    exact ⟨by omega, fun _ => by omega⟩
  · rw [if_neg hc]
    exact ⟨Int.le_refl _, fun h => by rw [hl] at hc; exact absurd h hc⟩
theorem est_mono (G : GoodK n s) (hix : ∀ k i, ix k i n < n) (k k' : ByteArray) (hw : 0 ≤ w) : estK ix s.rows k' ≤ estK ix (s.add ix k w).2.rows k' := by
  by_cases h : k.size = 0
  · unfold KSt.add; rw [if_pos h]; exact Int.le_refl _
  by_cases h0 : w = 0
  · unfold KSt.add; rw [if_neg h, if_pos h0]; exact Int.le_refl _
  cases hf : fitsB s.sum w with
  | false => unfold KSt.add; rw [if_neg h, if_neg h0, if_pos hf]; exact Int.le_refl _
  | true =>
    have G' := G.add (ix := ix) k hw
    rw [add_okK h h0 hf] at G' ⊢
    have hs := G.ne
    have hn := G.n1
    have hpos : ∀ r ∈ s.rows, r.length ≠ 0 ∧ ∀ x ∈ r, 0 ≤ x := fun r hr => ⟨by rw [G.len r hr]; omega, fun x hx => (G.bd r hr x hx).1⟩
    have e1 : estK ix s.rows k' = estAt (ix k') 0 topU s.rows := if_neg (by omega)
    rw [e1]
    unfold estK at *
    show _ ≤ (if (putAt _ _ _ _).length = 0 then 0 else _)
    rw [if_neg (by rw [put_len]; omega)]
    refine est_ge (est_le (by unfold topU; decide) fun r hr => (hpos r hr).2) fun j r hj => ?_
    obtain ⟨q, hq, rfl⟩ := put_at0 hj
    have hm := List.mem_of_getElem? hq
    refine ⟨by rw [List.length_set]; exact (hpos q hm).1, ?_⟩
    rw [List.length_set, Nat.zero_add]
    have h1 := est_row (f := ix k') (i := 0) (m := topU) hpos (by unfold topU; decide) hq
    rw [Nat.zero_add] at h1
    exact Int.le_trans h1 (G.grow (hix k) hw hq _).1
/-- The sketch holds these additions. -/
structure OnlyK (ix : Ix) (n : Nat) (s : KSt) (h : List (ByteArray × Int)) : Prop where
  good : GoodK n s
  pos : ∀ a ∈ h, 0 ≤ a.2
  low : ∀ (k : ByteArray) (j : Nat) (r : List Int), s.rows[j]? = some r → freqE h k ≤ r.getD (ix k j n) 0
theorem OnlyK.new (hd : 1 ≤ d) (hn : 1 ≤ n) : OnlyK ix n (newK d n) [] := by
  have hr : ∀ r ∈ (newK d n).rows, r = List.replicate n (0 : Int) := fun r hr => List.eq_of_mem_replicate hr
  refine ⟨⟨hn, by show 1 ≤ (List.replicate d _).length; simp; exact hd, fun r h => by rw [hr r h]; simp, fun r h x hx => ?_, Int.le_refl _, by show (0 : Int) ≤ _; decide⟩, fun a ha => (by cases ha), fun k j r hj => ?_⟩
  · rw [hr r h] at hx; rw [List.eq_of_mem_replicate hx]; exact ⟨Int.le_refl _, Int.le_refl _⟩
  · rw [hr r (List.mem_of_getElem? hj), List.getD_eq_getElem?_getD, List.getElem?_replicate]
    show (0 : Int) ≤ _
    split <;> simp
theorem OnlyK.est {h : List (ByteArray × Int)} (O : OnlyK ix n s h) (k : ByteArray) : freqE h k ≤ estK ix s.rows k ∧ estK ix s.rows k ≤ s.sum := by
  have G := O.good
  refine ⟨?_, (G.est_bd k).2⟩
  have hs := G.ne
  have hn := G.n1
  have hle : freqE h k ≤ s.sum := by
    obtain ⟨r, hr⟩ : ∃ r, s.rows[0]? = some r := ⟨_, List.getElem?_eq_getElem (by omega)⟩
    exact Int.le_trans (O.low k 0 r hr) (getD_bd (G.bd r (List.mem_of_getElem? hr)) G.sum0 _).2
  have ht := G.top
  unfold estK
  rw [if_neg (by omega)]
  refine est_ge (by unfold topU; omega) fun j r hj => ?_
  have hl := G.len r (List.mem_of_getElem? hj)
  refine ⟨by omega, ?_⟩
  rw [Nat.zero_add, hl]
  exact O.low k j r hj
theorem OnlyK.add {h : List (ByteArray × Int)} (O : OnlyK ix n s h) (hix : ∀ k i, ix k i n < n) (hk : k.size ≠ 0) (hw : 0 < w) (hf : fitsB s.sum w = true) : (s.add ix k w).1 = 0 ∧ OnlyK ix n (s.add ix k w).2 ((k, w) :: h) ∧ (s.add ix k w).2.sum = s.sum + w := by
  have G := O.good
  have G' := G.add (ix := ix) k (Int.le_of_lt hw)
  have he := (O.est k).1
  rw [add_okK hk (by omega) hf] at G' ⊢
  refine ⟨rfl, ⟨G', fun a ha => ?_, fun k' j r hj => ?_⟩, rfl⟩
  · rcases List.mem_cons.1 ha with rfl | ha
    · exact Int.le_of_lt hw
    · exact O.pos a ha
  · obtain ⟨q, hq, rfl⟩ := put_at0 (show (putAt (ix k) (estK ix s.rows k + w) 0 s.rows)[j]? = some r from hj)
    obtain ⟨g1, g2⟩ := G.grow (m := estK ix s.rows k + w) (hix k) (Int.le_of_lt hw) hq (ix k' j n)
    have hlow := O.low k' j q hq
    rw [freq_cons]
    show freqE h k' + (if k = k' then w else 0) ≤ _
    by_cases hkk : k = k'
    · subst hkk
      rw [if_pos rfl]
      have := g2 rfl
      omega
    · rw [if_neg hkk]
      omega
end
end Go.Proofs.Ytcckfdhajbbieaa
