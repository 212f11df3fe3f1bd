/- The plain mathematics of open addressing: slots in a ring, each element as near behind its home as the elder ones let it, and a deletion that moves later elements back. Conditions: none beyond those typed. -/
import Derived.Test.YtcckfdhajbbieaaMmath
namespace Go.Proofs.Ytcckfdhajbbieaa
set_option linter.unusedVariables false
set_option linter.unusedSimpArgs false

/-- How many steps lead from place h to place i in a ring of N. -/
def dst (N h i : Nat) : Nat := if h ≤ i then i - h else i + N - h
section
variable {N h i j p q : Nat}
theorem dst_lt (hh : h < N) (hi : i < N) : dst N h i < N := by unfold dst; split <;> omega
theorem dst_self : dst N h h = 0 := by simp [dst]
theorem dst_zero (hh : h < N) (hi : i < N) (h0 : dst N h i = 0) : h = i := by unfold dst at h0; split at h0 <;> omega
theorem dst_inj (hh : h < N) (hi : i < N) (hj : j < N) (he : dst N h i = dst N h j) : i = j := by unfold dst at he; split at he <;> split at he <;> omega
theorem dst_mod (hh : h < N) (hi : i < N) : (i + N - h) % N = dst N h i := by
  unfold dst
  split
  · rw [show i + N - h = (i - h) + N by omega, Nat.add_mod_right, Nat.mod_eq_of_lt (by omega)]
  · rw [Nat.mod_eq_of_lt (by omega)]
theorem next_mod (hi : i < N) : (i + 1) % N = if i + 1 = N then 0 else i + 1 := by
  split
  · rename_i e; rw [e, Nat.mod_self]
  · rw [Nat.mod_eq_of_lt (by omega)]
/-- The next place: one step more, or back at the beginning. -/
theorem dst_next (hh : h < N) (hi : i < N) : dst N h ((i + 1) % N) = if dst N h i + 1 = N then 0 else dst N h i + 1 := by
  rw [next_mod hi]
  unfold dst
  split <;> split <;> split <;> split <;> omega
theorem next_lt (hN : 0 < N) (i : Nat) : (i + 1) % N < N := Nat.mod_lt _ hN
/-- A way through i goes on behind it. -/
theorem dst_add (hh : h < N) (hi : i < N) (hp : p < N) (hq : q < N) (h1 : dst N h i ≤ dst N h p) (h2 : dst N i q ≤ dst N i p) : dst N h q = dst N h i + dst N i q := by
  unfold dst at *
  split at h1 <;> split at h1 <;> split at h2 <;> split at h2 <;> split <;> (try split) <;> (try split) <;> omega
/-- i lies on the way from h to j. -/
theorem dst_on (hh : h < N) (hi : i < N) (hj : j < N) (hne : i ≠ j) : dst N i j ≤ dst N h j ↔ dst N h i < dst N h j := by
  unfold dst
  split <;> split <;> split <;> omega
end
/-- Slots. -/
abbrev Tb (α : Type) := List (Option (ByteArray × α))
section
variable {α : Type}
def Occ (t : Tb α) (j : Nat) : Prop := ∃ e, t[j]? = some (some e)
def Emp (t : Tb α) (j : Nat) : Prop := t[j]? = some none
variable {t t' : Tb α} {home : ByteArray → Nat} {i j p q : Nat} {k s : ByteArray} {v u : α} {e : ByteArray × α}
theorem Occ.lt (h : Occ t j) : j < t.length := by obtain ⟨_, h⟩ := h; exact (List.getElem?_eq_some_iff.1 h).1
theorem occ_or (hj : j < t.length) : Occ t j ∨ Emp t j := by
  have := List.getElem?_eq_getElem hj
  cases h : t[j] with
  | none => rw [h] at this; exact .inr this
  | some e => rw [h] at this; exact .inl ⟨e, this⟩
theorem Emp.not (h : Emp t j) : ¬ Occ t j := by rintro ⟨e, h'⟩; unfold Emp at h; rw [h] at h'; cases h'
/-- What stands in a table: a key once, and no gap between a home and its element. -/
structure LP (home : ByteArray → Nat) (t : Tb α) : Prop where
  hm : ∀ k, home k < t.length
  uniq : ∀ (i j : Nat) (k : ByteArray) (v u : α), t[i]? = some (some (k, v)) → t[j]? = some (some (k, u)) → i = j
  path : ∀ (p : Nat) (k : ByteArray) (v : α), t[p]? = some (some (k, v)) → ∀ q, q < t.length → dst t.length (home k) q < dst t.length (home k) p → Occ t q
/-- An empty slot on the way: the key is not there. -/
theorem LP.miss (h : LP home t) (hi : Emp t i) (hno : ∀ q, q < t.length → dst t.length (home k) q < dst t.length (home k) i → ∀ v, t[q]? ≠ some (some (k, v))) (p : Nat) (v : α) : t[p]? ≠ some (some (k, v)) := fun hp => by
  have hil : i < t.length := (List.getElem?_eq_some_iff.1 hi).1
  have hpl : p < t.length := (List.getElem?_eq_some_iff.1 hp).1
  rcases Nat.lt_trichotomy (dst t.length (home k) p) (dst t.length (home k) i) with h1 | h1 | h1
  · exact hno p hpl h1 v hp
  · have := dst_inj (h.hm k) hpl hil h1
    subst this
    exact hi.not ⟨_, hp⟩
  · exact hi.not (h.path p k v hp i hil h1)
theorem occ_set (hi : i < t.length) : Occ (t.set i (some e)) j ↔ j = i ∨ Occ t j := by
  unfold Occ
  by_cases e' : i = j
  · subst e'; simp [hi]
  · rw [List.getElem?_set_ne e']
    constructor
    · exact .inr
    · rintro (h | h)
      · exact absurd h.symm e'
      · exact h
theorem tb_set_at (hi : i < t.length) {x : Option (ByteArray × α)} : (t.set i x)[j]? = if i = j then some x else t[j]? := by
  rw [List.getElem?_set]
  by_cases e' : i = j
  · subst e'; simp [hi]
  · rw [if_neg e', if_neg e']
/-- A new key in the first empty slot on its way. -/
theorem LP.add (h : LP home t) (hi : Emp t i) (hp : ∀ q, q < t.length → dst t.length (home k) q < dst t.length (home k) i → Occ t q) (hno : ∀ (p : Nat) (v : α), t[p]? ≠ some (some (k, v))) (v : α) : LP home (t.set i (some (k, v))) := by
  have hil : i < t.length := (List.getElem?_eq_some_iff.1 hi).1
  refine ⟨fun k => by rw [List.length_set]; exact h.hm k, fun a b c x y ha hb => ?_, fun p c x hc q hq hd => ?_⟩
  · rw [tb_set_at hil] at ha hb
    by_cases e1 : i = a
    · by_cases e2 : i = b
      · omega
      · rw [if_pos e1] at ha; injection ha with ha; injection ha with ha; injection ha with ha1 ha2
        rw [if_neg e2, ← ha1] at hb
        exact absurd hb (hno b y)
    · by_cases e2 : i = b
      · rw [if_pos e2] at hb; injection hb with hb; injection hb with hb; injection hb with hb1 hb2
        rw [if_neg e1, ← hb1] at ha
        exact absurd ha (hno a x)
      · rw [if_neg e1] at ha; rw [if_neg e2] at hb
        exact h.uniq a b c x y ha hb
  · rw [List.length_set] at hq hd
    rw [occ_set hil]
    rw [tb_set_at hil] at hc
    by_cases e1 : i = p
    · subst e1
      rw [if_pos rfl] at hc; injection hc with hc; injection hc with hc; injection hc with hc1 hc2
      subst hc1
      exact .inr (hp q hq hd)
    · rw [if_neg e1] at hc
      exact .inr (h.path p c x hc q hq hd)
/-- Another value. -/
theorem LP.val (h : LP home t) (hi : t[i]? = some (some (k, v))) (u : α) : LP home (t.set i (some (k, u))) := by
  have hil : i < t.length := (List.getElem?_eq_some_iff.1 hi).1
  have hkey : ∀ (a : Nat) (c : ByteArray) (x : α), (t.set i (some (k, u)))[a]? = some (some (c, x)) → ∃ y, t[a]? = some (some (c, y)) := fun a c x ha => by
    rw [tb_set_at hil] at ha
    by_cases e1 : i = a
    · subst e1; rw [if_pos rfl] at ha; injection ha with ha; injection ha with ha; injection ha with ha1 ha2
      subst ha1; exact ⟨v, hi⟩
    · rw [if_neg e1] at ha; exact ⟨x, ha⟩
  refine ⟨fun k => by rw [List.length_set]; exact h.hm k, fun a b c x y ha hb => ?_, fun p c x hc q hq hd => ?_⟩
  · obtain ⟨_, ha⟩ := hkey a c x ha
    obtain ⟨_, hb⟩ := hkey b c y hb
    exact h.uniq a b c _ _ ha hb
  · rw [List.length_set] at hq hd
    obtain ⟨_, hc⟩ := hkey p c x hc
    rw [occ_set hil]
    exact .inr (h.path p c _ hc q hq hd)
/-- Amid a deletion: i is the gap, and what lies up to j behind it does not need it. -/
structure LPh (home : ByteArray → Nat) (t : Tb α) (i j : Nat) : Prop where
  hm : ∀ k, home k < t.length
  gap : Emp t i
  jl : j < t.length
  uniq : ∀ (i j : Nat) (k : ByteArray) (v u : α), t[i]? = some (some (k, v)) → t[j]? = some (some (k, u)) → i = j
  path : ∀ (p : Nat) (k : ByteArray) (v : α), t[p]? = some (some (k, v)) → ∀ q, q < t.length → dst t.length (home k) q < dst t.length (home k) p → Occ t q ∨ (q = i ∧ dst t.length i j < dst t.length i p)
theorem occ_none (hi : i < t.length) : Occ (t.set i none) j ↔ j ≠ i ∧ Occ t j := by
  unfold Occ
  by_cases e' : i = j
  · subst e'; simp [hi]
  · rw [List.getElem?_set_ne e']
    exact ⟨fun h => ⟨fun h' => e' h'.symm, h⟩, fun h => h.2⟩
theorem LP.cut (h : LP home t) (hi : Occ t i) : LPh home (t.set i none) i i := by
  have hil := hi.lt
  refine ⟨fun k => by rw [List.length_set]; exact h.hm k, by unfold Emp; rw [tb_set_at hil, if_pos rfl], by rw [List.length_set]; exact hil, fun a b c x y ha hb => ?_, fun p c x hc q hq hd => ?_⟩
  · rw [tb_set_at hil] at ha hb
    by_cases e1 : i = a
    · rw [if_pos e1] at ha; injection ha with ha; cases ha
    · by_cases e2 : i = b
      · rw [if_pos e2] at hb; injection hb with hb; cases hb
      · rw [if_neg e1] at ha; rw [if_neg e2] at hb
        exact h.uniq a b c x y ha hb
  · rw [List.length_set] at hq hd ⊢
    rw [tb_set_at hil] at hc
    by_cases e1 : i = p
    · rw [if_pos e1] at hc; injection hc with hc; cases hc
    · rw [if_neg e1] at hc
      have ho := h.path p c x hc q hq hd
      rw [occ_none hil]
      by_cases e2 : q = i
      · refine .inr ⟨e2, ?_⟩
        rw [dst_self]
        rcases Nat.eq_zero_or_pos (dst t.length i p) with h0 | h0
        · exact absurd (dst_zero hil (List.getElem?_eq_some_iff.1 hc).1 h0) e1
        · exact h0
      · exact .inl ⟨e2, ho⟩
/-- The end at an empty slot. -/
theorem LPh.stop (h : LPh home t i j) (hj : Emp t ((j + 1) % t.length)) : LP home t := by
  have hil : i < t.length := (List.getElem?_eq_some_iff.1 h.gap).1
  have hnl : (j + 1) % t.length < t.length := next_lt (by omega) j
  refine ⟨h.hm, h.uniq, fun p c x hc q hq hd => ?_⟩
  rcases h.path p c x hc q hq hd with h1 | ⟨rfl, h1⟩
  · exact h1
  · have hpl : p < t.length := (List.getElem?_eq_some_iff.1 hc).1
    have hpn := dst_lt hil hpl
    have hdn := dst_next hil h.jl
    rw [if_neg (by omega)] at hdn
    have hpne : p ≠ (j + 1) % t.length := fun e => by subst e; exact hj.not ⟨_, hc⟩
    have hlt : dst t.length q ((j + 1) % t.length) < dst t.length q p := by
      rcases Nat.lt_or_ge (dst t.length q ((j + 1) % t.length)) (dst t.length q p) with h2 | h2
      · exact h2
      · exact absurd (dst_inj hil hpl hnl (by omega)) hpne
    have hadd := dst_add (h.hm c) hil hpl hnl (Nat.le_of_lt hd) (Nat.le_of_lt hlt)
    have hadd2 := dst_add (h.hm c) hil hpl hpl (Nat.le_of_lt hd) (Nat.le_refl _)
    rcases h.path p c x hc _ hnl (by omega) with h2 | ⟨h2, _⟩
    · exact absurd h2 hj.not
    · rw [h2, dst_self] at hdn; omega
/-- The end once all have been looked at. -/
theorem LPh.full (h : LPh home t i j) (hj : dst t.length i j + 1 = t.length) : LP home t := by
  have hil : i < t.length := (List.getElem?_eq_some_iff.1 h.gap).1
  refine ⟨h.hm, h.uniq, fun p c x hc q hq hd => ?_⟩
  rcases h.path p c x hc q hq hd with h1 | ⟨rfl, h1⟩
  · exact h1
  · have := dst_lt hil (List.getElem?_eq_some_iff.1 hc).1
    omega
/-- An element that does not need the gap stays. -/
theorem LPh.stay (h : LPh home t i j) (hn : dst t.length i j + 1 ≠ t.length) (hj : t[(j + 1) % t.length]? = some (some (k, v))) (hno : ¬ dst t.length (home k) i < dst t.length (home k) ((j + 1) % t.length)) : LPh home t i ((j + 1) % t.length) := by
  have hil : i < t.length := (List.getElem?_eq_some_iff.1 h.gap).1
  have hnl : (j + 1) % t.length < t.length := next_lt (by omega) j
  have hdn := dst_next hil h.jl
  rw [if_neg hn] at hdn
  refine ⟨h.hm, h.gap, hnl, h.uniq, fun p c x hc q hq hd => ?_⟩
  rcases h.path p c x hc q hq hd with h1 | ⟨rfl, h1⟩
  · exact .inl h1
  · refine .inr ⟨rfl, ?_⟩
    have hpl : p < t.length := (List.getElem?_eq_some_iff.1 hc).1
    rcases Nat.lt_or_ge (dst t.length q ((j + 1) % t.length)) (dst t.length q p) with h2 | h2
    · exact h2
    · have e := dst_inj hil hpl hnl (by omega)
      subst e
      rw [hj] at hc; injection hc with hc; injection hc with hc; injection hc with hc1 hc2
      subst hc1
      exact absurd hd hno
/-- An element that needs the gap moves into it. -/
theorem LPh.move (h : LPh home t i j) (hn : dst t.length i j + 1 ≠ t.length) (hj : t[(j + 1) % t.length]? = some (some (k, v))) (hyes : dst t.length (home k) i < dst t.length (home k) ((j + 1) % t.length)) : LPh home ((t.set i (some (k, v))).set ((j + 1) % t.length) none) ((j + 1) % t.length) ((j + 1) % t.length) := by
  have hil : i < t.length := (List.getElem?_eq_some_iff.1 h.gap).1
  have hnl : (j + 1) % t.length < t.length := next_lt (by omega) j
  have hdn := dst_next hil h.jl
  rw [if_neg hn] at hdn
  generalize (j + 1) % t.length = r at *
  have hri : r ≠ i := fun e => by rw [e, dst_self] at hdn; omega
  have hrl : r < (t.set i (some (k, v))).length := by rw [List.length_set]; exact hnl
  have key : ∀ (a : Nat) (c : ByteArray) (x : α), ((t.set i (some (k, v))).set r none)[a]? = some (some (c, x)) → (a = i ∧ c = k ∧ x = v) ∨ (a ≠ i ∧ a ≠ r ∧ t[a]? = some (some (c, x))) := fun a c x ha => by
    rw [tb_set_at hrl] at ha
    by_cases e1 : r = a
    · rw [if_pos e1] at ha; injection ha with ha; cases ha
    · rw [if_neg e1, tb_set_at hil] at ha
      by_cases e2 : i = a
      · rw [if_pos e2] at ha; injection ha with ha; injection ha with ha; injection ha with ha1 ha2
        exact .inl ⟨e2.symm, ha1.symm, ha2.symm⟩
      · rw [if_neg e2] at ha; exact .inr ⟨fun e => e2 e.symm, fun e => e1 e.symm, ha⟩
  have hocc : ∀ q, Occ ((t.set i (some (k, v))).set r none) q ↔ q ≠ r ∧ (q = i ∨ Occ t q) := fun q => by rw [occ_none hrl, occ_set hil]
  refine ⟨fun k => by simp only [List.length_set]; exact h.hm k, by unfold Emp; rw [tb_set_at hrl, if_pos rfl], by simp only [List.length_set]; exact hnl, fun a b c x y ha hb => ?_, fun p c x hc q hq hd => ?_⟩
  · rcases key a c x ha with ⟨a1, a2, a3⟩ | ⟨a1, a2, a3⟩
    · rcases key b c y hb with ⟨b1, b2, b3⟩ | ⟨b1, b2, b3⟩
      · omega
      · subst a2; exact absurd (h.uniq b r c y v b3 hj) b2
    · rcases key b c y hb with ⟨b1, b2, b3⟩ | ⟨b1, b2, b3⟩
      · subst b2; exact absurd (h.uniq a r c x v a3 hj) a2
      · exact h.uniq a b c x y a3 b3
  · simp only [List.length_set] at hq hd ⊢
    rw [hocc, dst_self]
    rcases key p c x hc with ⟨a1, a2, a3⟩ | ⟨a1, a2, a3⟩
    · subst a1 a2
      have hqr : q ≠ r := fun e => by subst e; omega
      rcases h.path r c v hj q hq (by omega) with h1 | ⟨h1, _⟩
      · exact .inl ⟨hqr, .inr h1⟩
      · exact .inl ⟨hqr, .inl h1⟩
    · by_cases hqr : q = r
      · refine .inr ⟨hqr, ?_⟩
        rcases Nat.eq_zero_or_pos (dst t.length r p) with h0 | h0
        · exact absurd (dst_zero hnl (List.getElem?_eq_some_iff.1 a3).1 h0).symm a2
        · exact h0
      · rcases h.path p c x a3 q hq hd with h1 | ⟨h1, _⟩
        · exact .inl ⟨hqr, .inr h1⟩
        · exact .inl ⟨hqr, .inl h1⟩
/-- What a table holds. -/
def Has (t : Tb α) (k : ByteArray) (v : α) : Prop := some (k, v) ∈ t
theorem has_iff : Has t k v ↔ ∃ i : Nat, t[i]? = some (some (k, v)) := List.mem_iff_getElem?
theorem Has.same (h : LP home t) (h1 : Has t k v) (h2 : Has t k u) : v = u := by
  obtain ⟨i, hi⟩ := has_iff.1 h1
  obtain ⟨j, hj⟩ := has_iff.1 h2
  have := h.uniq i j k v u hi hj
  subst this
  rw [hi] at hj; injection hj with hj; injection hj with hj; injection hj
/-- How what a table holds changes. -/
theorem has_add (hi : Emp t i) {c : ByteArray} {x : α} : Has (t.set i (some (k, v))) c x ↔ (c = k ∧ x = v) ∨ Has t c x := by
  have hil : i < t.length := (List.getElem?_eq_some_iff.1 hi).1
  rw [has_iff, has_iff]
  constructor
  · rintro ⟨a, ha⟩
    rw [tb_set_at hil] at ha
    by_cases e : i = a
    · rw [if_pos e] at ha; injection ha with ha; injection ha with ha; injection ha with h1 h2
      exact .inl ⟨h1.symm, h2.symm⟩
    · rw [if_neg e] at ha; exact .inr ⟨a, ha⟩
  · rintro (⟨rfl, rfl⟩ | ⟨a, ha⟩)
    · exact ⟨i, by rw [tb_set_at hil, if_pos rfl]⟩
    · refine ⟨a, ?_⟩
      rw [tb_set_at hil, if_neg fun e => by subst e; unfold Emp at hi; rw [hi] at ha; cases ha]; exact ha
theorem has_val (h : LP home t) (hi : t[i]? = some (some (k, v))) {c : ByteArray} {x : α} : Has (t.set i (some (k, u))) c x ↔ (c = k ∧ x = u) ∨ (c ≠ k ∧ Has t c x) := by
  have hil : i < t.length := (List.getElem?_eq_some_iff.1 hi).1
  rw [has_iff, has_iff]
  constructor
  · rintro ⟨a, ha⟩
    rw [tb_set_at hil] at ha
    by_cases e : i = a
    · rw [if_pos e] at ha; injection ha with ha; injection ha with ha; injection ha with h1 h2
      exact .inl ⟨h1.symm, h2.symm⟩
    · rw [if_neg e] at ha
      exact .inr ⟨fun e' => by subst e'; exact e (h.uniq i a c v x hi ha), a, ha⟩
  · rintro (⟨rfl, rfl⟩ | ⟨hne, a, ha⟩)
    · exact ⟨i, by rw [tb_set_at hil, if_pos rfl]⟩
    · refine ⟨a, ?_⟩
      rw [tb_set_at hil, if_neg fun e => by subst e; rw [hi] at ha; injection ha with ha; injection ha with ha; injection ha with h1; exact hne h1.symm]; exact ha
theorem has_cut (h : LP home t) (hi : t[i]? = some (some (k, v))) {c : ByteArray} {x : α} : Has (t.set i none) c x ↔ c ≠ k ∧ Has t c x := by
  have hil : i < t.length := (List.getElem?_eq_some_iff.1 hi).1
  rw [has_iff, has_iff]
  constructor
  · rintro ⟨a, ha⟩
    rw [tb_set_at hil] at ha
    by_cases e : i = a
    · rw [if_pos e] at ha; injection ha with ha; cases ha
    · rw [if_neg e] at ha
      exact ⟨fun e' => by subst e'; exact e (h.uniq i a c v x hi ha), a, ha⟩
  · rintro ⟨hne, a, ha⟩
    refine ⟨a, ?_⟩
    rw [tb_set_at hil, if_neg fun e => by subst e; rw [hi] at ha; injection ha with ha; injection ha with ha; injection ha with h1; exact hne h1.symm]; exact ha
theorem has_move (hi : Emp t i) (hj : t[j]? = some (some (k, v))) {c : ByteArray} {x : α} : Has ((t.set i (some (k, v))).set j none) c x ↔ Has t c x := by
  have hil : i < t.length := (List.getElem?_eq_some_iff.1 hi).1
  have hjl : j < t.length := (List.getElem?_eq_some_iff.1 hj).1
  have hjl' : j < (t.set i (some (k, v))).length := by rw [List.length_set]; exact hjl
  have hij : j ≠ i := fun e => by subst e; unfold Emp at hi; rw [hi] at hj; cases hj
  rw [has_iff, has_iff]
  constructor
  · rintro ⟨a, ha⟩
    rw [tb_set_at hjl'] at ha
    by_cases e : j = a
    · rw [if_pos e] at ha; injection ha with ha; cases ha
    · rw [if_neg e, tb_set_at hil] at ha
      by_cases e2 : i = a
      · rw [if_pos e2] at ha; injection ha with ha; injection ha with ha; injection ha with h1 h2
        subst h1 h2; exact ⟨j, hj⟩
      · rw [if_neg e2] at ha; exact ⟨a, ha⟩
  · rintro ⟨a, ha⟩
    by_cases e : j = a
    · subst e; rw [hj] at ha; injection ha with ha; injection ha with ha; injection ha with h1 h2
      subst h1 h2
      exact ⟨i, by rw [tb_set_at hjl', if_neg hij, tb_set_at hil, if_pos rfl]⟩
    · refine ⟨a, ?_⟩
      rw [tb_set_at hjl', if_neg e, tb_set_at hil, if_neg fun e2 => by subst e2; unfold Emp at hi; rw [hi] at ha; cases ha]; exact ha
/-- The slots hold the table m. -/
def RelT (t : Tb α) (m : MSt α) : Prop := ∀ k v, Has t k v ↔ m.look k = some v
variable {m : MSt α}
theorem RelT.new {n N : Nat} : RelT (List.replicate N none) (newM α n) := fun k v => by
  rw [newM_look]
  constructor
  · intro h; have := (List.mem_replicate.1 h).2; cases this
  · intro h; cases h
theorem LP.new {N : Nat} (hm : ∀ k, home k < N) : LP home (List.replicate N (none : Option (ByteArray × α))) :=
  have hno : ∀ (i : Nat) (e : ByteArray × α), (List.replicate N (none : Option (ByteArray × α)))[i]? ≠ some (some e) := fun i e h => by have := (List.mem_replicate.1 (List.mem_of_getElem? h)).2; cases this
  ⟨fun k => by rw [List.length_replicate]; exact hm k, fun i j k v u h _ => absurd h (hno _ _), fun p k v h => absurd h (hno _ _)⟩
theorem RelT.gone (R : RelT t m) (hl : m.look k = none) (p : Nat) (v : α) : t[p]? ≠ some (some (k, v)) := fun hp => by
  have := (R k v).1 (has_iff.2 ⟨p, hp⟩); rw [hl] at this; cases this
theorem RelT.off (R : RelT t m) (h : ∀ (p : Nat) (v : α), t[p]? ≠ some (some (k, v))) : m.look k = none := by
  cases hl : m.look k with
  | none => rfl
  | some v => obtain ⟨p, hp⟩ := has_iff.1 ((R k v).2 hl); exact absurd hp (h p v)
theorem RelT.yes (R : RelT t m) (hi : t[i]? = some (some (k, v))) : m.look k = some v := (R k v).1 (has_iff.2 ⟨i, hi⟩)
theorem RelT.add (R : RelT t m) (G : GoodM m) (hi : Emp t i) (hl : m.look k = none) (hn : m.l.length ≠ m.n) (v : α) : RelT (t.set i (some (k, v))) (m.put k v).2 := fun c x => by
  rw [has_add hi, R c x, put_look G k v (put_fresh hl hn v).1]
  by_cases e : c = k
  · subst e; rw [if_pos rfl, hl]
    constructor
    · rintro (⟨_, rfl⟩ | h)
      · rfl
      · cases h
    · intro h; injection h with h; exact .inl ⟨rfl, h.symm⟩
  · rw [if_neg e]
    exact ⟨fun h => h.resolve_left fun h => e h.1, .inr⟩
theorem RelT.val (R : RelT t m) (G : GoodM m) (h : LP home t) (hi : t[i]? = some (some (k, v))) (u : α) : RelT (t.set i (some (k, u))) (m.put k u).2 := fun c x => by
  rw [has_val h hi, R c x, put_look G k u (put_old (R.yes hi) u).1]
  by_cases e : c = k
  · subst e; rw [if_pos rfl]
    constructor
    · rintro (⟨_, rfl⟩ | h)
      · rfl
      · exact absurd rfl h.1
    · intro h; injection h with h; exact .inl ⟨rfl, h.symm⟩
  · rw [if_neg e]
    exact ⟨fun h => (h.resolve_left fun h => e h.1).2, fun h => .inr ⟨e, h⟩⟩
theorem RelT.cut (R : RelT t m) (G : GoodM m) (h : LP home t) (hi : t[i]? = some (some (k, v))) : RelT (t.set i Option.none) (m.del k) := fun c x => by
  rw [has_cut h hi, R c x, del_look G]
  by_cases e : c = k
  · rw [if_pos e]; exact ⟨fun h => absurd e h.1, fun h => by cases h⟩
  · rw [if_neg e]; exact ⟨fun h => h.2, fun h => ⟨e, h⟩⟩
theorem RelT.move (R : RelT t m) (hi : Emp t i) (hj : t[j]? = some (some (k, v))) : RelT ((t.set i (some (k, v))).set j Option.none) m := fun c x => by rw [has_move hi hj, R c x]
/-- What lies in the slots, in their order. -/
def ents (t : Tb α) : List (ByteArray × α) := t.filterMap id
theorem ents_mem {e : ByteArray × α} : e ∈ ents t ↔ Has t e.1 e.2 := by unfold ents Has; simp [List.mem_filterMap]
theorem nodup_into {β : Type} : ∀ {l l' : List β}, l.Nodup → (∀ x ∈ l, x ∈ l') → l.length ≤ l'.length
  | [], _, _, _ => Nat.zero_le _
  | x :: r, l', hn, hs => by
    obtain ⟨h1, h2⟩ := List.nodup_cons.1 hn
    obtain ⟨a, b, rfl⟩ := List.append_of_mem (hs x (List.mem_cons_self ..))
    have := nodup_into (l' := a ++ b) h2 fun y hy => by
      have hm := hs y (List.mem_cons_of_mem _ hy)
      have hne : y ≠ x := fun e => h1 (e ▸ hy)
      simp only [List.mem_append, List.mem_cons] at hm ⊢
      rcases hm with h | h | h
      · exact .inl h
      · exact absurd h hne
      · exact .inr h
    simp only [List.length_append, List.length_cons] at this ⊢
    omega
/-- No key lies in two slots. -/
theorem LP.nodup (h : LP home t) : ((ents t).map Prod.fst).Nodup := by
  have gen : ∀ (t : Tb α), (∀ (i j : Nat) (k : ByteArray) (v u : α), t[i]? = some (some (k, v)) → t[j]? = some (some (k, u)) → i = j) → ((ents t).map Prod.fst).Nodup := by
    intro t
    induction t with
    | nil => intro _; exact List.nodup_nil
    | cons x r ih =>
      intro hu
      have hr := ih fun i j k v u hi hj => by have := hu (i + 1) (j + 1) k v u hi hj; omega
      cases x with
      | none => exact hr
      | some e =>
        show ((e :: ents r).map Prod.fst).Nodup
        refine List.nodup_cons.2 ⟨fun hm => ?_, hr⟩
        obtain ⟨⟨a, b⟩, h1, h2⟩ := List.mem_map.1 hm
        obtain ⟨i, hi⟩ := has_iff.1 (ents_mem.1 h1)
        obtain ⟨c, d⟩ := e
        simp only at h2 hi; subst h2
        have := hu 0 (i + 1) a d b rfl hi
        omega
  exact gen t h.uniq
theorem RelT.count (R : RelT t m) (G : GoodM m) (h : LP home t) : (ents t).length = m.l.length := by
  have e1 : ((ents t).map Prod.fst).length = (ents t).length := List.length_map ..
  have e2 : m.keys.length = m.l.length := List.length_map ..
  have hs : m.keys.Pairwise fun a b => sless a b = true := List.pairwise_map.2 G.srt
  have hn : m.keys.Nodup := hs.imp fun h => sless_ne h
  have hmem : ∀ s, s ∈ (ents t).map Prod.fst ↔ s ∈ m.keys := fun s => by
    rw [show s ∈ m.keys ↔ ∃ v, m.look s = some v from (look_key G.srt).symm]
    constructor
    · intro hm
      obtain ⟨⟨a, b⟩, h1, h2⟩ := List.mem_map.1 hm
      simp only at h2; subst h2
      exact ⟨b, (R a b).1 (ents_mem.1 h1)⟩
    · rintro ⟨v, hv⟩
      exact List.mem_map.2 ⟨(s, v), ents_mem.2 ((R s v).2 hv), rfl⟩
  have h1 := nodup_into h.nodup fun s hs => (hmem s).1 hs
  have h2 := nodup_into hn fun s hs => (hmem s).2 hs
  omega
/-- The keys, once they are in order. -/
theorem RelT.keys (R : RelT t m) (G : GoodM m) {l : List ByteArray} (hs : l.Pairwise fun a b => sless a b = true) (hm : ∀ s, s ∈ l ↔ s ∈ (ents t).map Prod.fst) : l = m.keys := by
  refine srt_unique hs (List.pairwise_map.2 G.srt) fun s => ?_
  rw [hm]
  rw [show s ∈ m.keys ↔ ∃ v, m.look s = some v from (look_key G.srt).symm]
  constructor
  · intro hm
    obtain ⟨⟨a, b⟩, h1, h2⟩ := List.mem_map.1 hm
    simp only at h2; subst h2
    exact ⟨b, (R a b).1 (ents_mem.1 h1)⟩
  · rintro ⟨v, hv⟩
    exact List.mem_map.2 ⟨(s, v), ents_mem.2 ((R s v).2 hv), rfl⟩
/-- Fewer keys than slots: one is empty. -/
theorem RelT.room (R : RelT t m) (G : GoodM m) (h : LP home t) (hlt : m.l.length < t.length) : ∃ i, Emp t i := by
  rcases Classical.em (∃ i, Emp t i) with h1 | h1
  · exact h1
  · have hall : ∀ (t : Tb α), (∀ i, ¬ Emp t i) → (ents t).length = t.length := by
      intro t
      induction t with
      | nil => intro _; rfl
      | cons x r ih =>
        intro hn
        cases x with
        | none => exact absurd rfl (hn 0)
        | some e =>
          show (e :: ents r).length = _
          rw [List.length_cons, List.length_cons, ih fun i hi => hn (i + 1) hi]
    have := hall t fun i hi => h1 ⟨i, hi⟩
    have := R.count G h
    omega
end
end Go.Proofs.Ytcckfdhajbbieaa
