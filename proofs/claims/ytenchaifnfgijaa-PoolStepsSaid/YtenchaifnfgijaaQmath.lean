/- Pools as plain data: keys with their numbers, users and handles, what a call leaves, what stays true; which numbers are free; arenas that differ in bytes alone. Conditions: none beyond those typed. -/
import Derived.Test.YtenchaifnfgijaaJh
import Derived.Test.YtenchaifnfgijaaBm
namespace Go.Proofs.Ytenchaifnfgijaa
set_option linter.unusedVariables false
set_option linter.unusedSimpArgs false

/-- A number of a pool: its key, its users (none: no key has the number), its handle. -/
structure PEn where
  k : ByteArray
  u : Nat
  h : Hd
/-- A pool: for at most n keys; its numbers from 1 on; how many calls changed it. -/
structure PSt where
  n : Nat
  e : List PEn
  t : Nat
def isK (s : ByteArray) (y : PEn) : Bool := decide (0 < y.u) && decide (y.k = s)
def PSt.find (q : PSt) (s : ByteArray) : Option Nat := q.e.findIdx? (isK s)
def aliveN (e : List PEn) : Nat := e.countP fun y => decide (0 < y.u)
/-- The place of the least number that no key has. -/
def slotNo (e : List PEn) : Nat := e.findIdx fun y => decide (y.u = 0)
def putE (e : List PEn) (i : Nat) (y : PEn) : List PEn := if i < e.length then e.set i y else e ++ [y]
def PSt.tick (q : PSt) : PSt := { q with t := q.t + 1 }
def PEn.up (y : PEn) : PEn := { y with u := y.u + 1 }
def PEn.down (y : PEn) : PEn := { y with u := y.u - 1 }
def PSt.more (q : PSt) (i : Nat) : PSt := { q with e := q.e.modify i PEn.up, t := q.t + 1 }
def PSt.less (q : PSt) (i : Nat) : PSt := { q with e := q.e.modify i PEn.down, t := q.t + 1 }
def PSt.put (q : PSt) (s : ByteArray) (h : Hd) : PSt := { q with e := putE q.e (slotNo q.e) ⟨s, 1, h⟩, t := q.t + 1 }
def newQ (n : Nat) : PSt := ⟨n, [], 0⟩
/-- Intern, P9.2. -/
def PSt.intern (q : PSt) (x : ASt) (s : ByteArray) : (Int × Int) × PSt :=
  if s.size = 0 then ((0, 3), q.tick) else if 255 < s.size then ((0, 4), q.tick) else
  match q.find s with
  | some i => ((((i + 1 : Nat) : Int), 0), q.more i)
  | none => if aliveN q.e = q.n then ((0, 7), q.tick) else
    if (x.alloc s.size).1.2 = 0 then ((((slotNo q.e + 1 : Nat) : Int), 0), q.put s (x.alloc s.size).1.1) else ((0, (x.alloc s.size).1.2), q.tick)
/-- Is a slot asked for? -/
def PSt.asks (q : PSt) (s : ByteArray) : Prop := s.size ≠ 0 ∧ ¬ 255 < s.size ∧ q.find s = none ∧ aliveN q.e ≠ q.n
instance (q : PSt) (s : ByteArray) : Decidable (q.asks s) := by unfold PSt.asks; infer_instance
/-- The arena behind Intern, where the bytes are not written. -/
def PSt.inR (q : PSt) (x : ASt) (s : ByteArray) : ASt := if q.asks s then (x.alloc s.size).2 else x
/-- .. where they are. -/
def PSt.inP (q : PSt) (x : ASt) (s : ByteArray) : ASt := if q.asks s then (if (x.alloc s.size).1.2 = 0 then ((x.alloc s.size).2.write (x.alloc s.size).1.1 (sB s)).2 else (x.alloc s.size).2) else x
/-- The key with this number. -/
def PSt.at (q : PSt) (id : Int) : Option (Nat × PEn) := if 1 ≤ id then (match q.e[(id - 1).toNat]? with | some y => if 0 < y.u then some ((id - 1).toNat, y) else none | none => none) else none
def PSt.release (q : PSt) (id : Int) : Int × PSt := match q.at id with | none => (8, q.tick) | some p => (0, q.less p.1)
def PSt.reR (q : PSt) (x : ASt) (id : Int) : ASt := match q.at id with | none => x | some p => if p.2.u = 1 then (x.free p.2.h).2 else x
def PSt.reP (q : PSt) (x : ASt) (id : Int) : ASt := match q.at id with | none => x | some p => if p.2.u = 1 then ((x.read p.2.h).2.free p.2.h).2 else x
def PSt.text (q : PSt) (id : Int) : ByteArray × Int := match q.at id with | none => (⟨#[]⟩, 8) | some p => (p.2.k, 0)
def PSt.teP (q : PSt) (x : ASt) (id : Int) : ASt := match q.at id with | none => x | some p => (x.read p.2.h).2
def PSt.look (q : PSt) (s : ByteArray) : Int × Int := match q.find s with | none => (0, 0) | some i => (((i + 1 : Nat) : Int), (((q.e[i]?.map PEn.u).getD 0 : Nat) : Int))

/-- What is true of every pool. -/
structure GoodQ (q : PSt) : Prop where
  n1 : 1 ≤ q.n
  n8 : q.n ≤ 8192
  len : q.e.length ≤ q.n
  key : ∀ y ∈ q.e, 0 < y.u → 1 ≤ y.k.size ∧ y.k.size ≤ 255
  ut : ∀ y ∈ q.e, y.u ≤ q.t
  one : ∀ (i j : Nat) (y z : PEn), q.e[i]? = some y → q.e[j]? = some z → 0 < y.u → 0 < z.u → y.k = z.k → i = j
/-- The keys lie in the arena, each in a slot of its own. -/
structure Lnk (q : PSt) (x : ASt) : Prop where
  slot : ∀ (i : Nat) (y : PEn), q.e[i]? = some y → 0 < y.u → ∃ (j : Nat) (z : Sl), x.s[j]? = some z ∧ z.u = true ∧ z.h = y.h ∧ z.b = sB y.k
  nd : ∀ (i j : Nat) (y z : PEn), q.e[i]? = some y → q.e[j]? = some z → 0 < y.u → 0 < z.u → y.h = z.h → i = j
section
variable {q : PSt} {x : ASt} {s : ByteArray} {i j : Nat} {y z : PEn} {id : Int}
theorem find_at (h : q.find s = some i) : ∃ y, q.e[i]? = some y ∧ 0 < y.u ∧ y.k = s ∧ i < q.e.length := by
  unfold PSt.find at h
  obtain ⟨hlt, h1, _⟩ := List.findIdx?_eq_some_iff_getElem.1 h
  simp [isK] at h1
  exact ⟨_, List.getElem?_eq_getElem hlt, h1.1, h1.2, hlt⟩
theorem find_not (h : q.find s = none) : ∀ y ∈ q.e, 0 < y.u → y.k ≠ s := by
  unfold PSt.find at h
  rw [List.findIdx?_eq_none_iff] at h
  intro y hy hu e
  have := h y hy
  simp [isK, hu, e] at this
theorem GoodQ.find_is (h : GoodQ q) (hy : q.e[i]? = some y) (hu : 0 < y.u) : q.find y.k = some i := by
  cases hf : q.find y.k with
  | none => exact absurd rfl (find_not hf y (List.mem_of_getElem? hy) hu)
  | some j =>
    obtain ⟨z, hz, hzu, hk, _⟩ := find_at hf
    rw [h.one i j y z hy hz hu hzu hk.symm]
theorem at_some {p : Nat × PEn} (h : q.at id = some p) : 1 ≤ id ∧ (p.1 : Int) = id - 1 ∧ q.e[p.1]? = some p.2 ∧ 0 < p.2.u ∧ p.1 < q.e.length := by
  unfold PSt.at at h
  split at h
  · rename_i h1
    cases he : q.e[(id - 1).toNat]? with
    | none => rw [he] at h; simp at h
    | some y =>
      rw [he] at h
      simp only at h
      split at h
      · rename_i hu
        injection h with h; subst h
        exact ⟨h1, by simp; omega, he, hu, (List.getElem?_eq_some_iff.1 he).1⟩
      · cases h
  · cases h
theorem at_none (h : q.at id = none) : ¬ (1 ≤ id) ∨ (q.e.length : Int) < id ∨ ∃ (i : Nat) (y : PEn), (i : Int) = id - 1 ∧ q.e[i]? = some y ∧ y.u = 0 := by
  unfold PSt.at at h
  split at h
  · rename_i h1
    cases he : q.e[(id - 1).toNat]? with
    | none => exact .inr (.inl (by have := List.getElem?_eq_none_iff.1 he; omega))
    | some y =>
      rw [he] at h
      simp only at h
      split at h
      · cases h
      · exact .inr (.inr ⟨(id - 1).toNat, y, by omega, he, by omega⟩)
  · exact .inl (by assumption)
theorem at_is (hi : (i : Int) = id - 1) (hy : q.e[i]? = some y) (hu : 0 < y.u) : q.at id = some (i, y) := by
  unfold PSt.at
  rw [if_pos (by omega), show (id - 1).toNat = i by omega, hy]
  simp [hu]
theorem countP_le_len (e : List PEn) : aliveN e ≤ e.length := List.countP_le_length
theorem slotNo_le (e : List PEn) : slotNo e ≤ e.length := List.findIdx_le_length
theorem slotNo_dead {e : List PEn} (h : slotNo e < e.length) : ∃ y, e[slotNo e]? = some y ∧ y.u = 0 := by
  have h1 : decide (e[slotNo e].u = 0) = true := List.findIdx_getElem (w := h)
  exact ⟨_, List.getElem?_eq_getElem h, of_decide_eq_true h1⟩
theorem slotNo_before {e : List PEn} (h : i < slotNo e) (hy : e[i]? = some y) : 0 < y.u := by
  have := List.not_of_lt_findIdx (p := fun y : PEn => decide (y.u = 0)) h
  obtain ⟨hl, he⟩ := List.getElem?_eq_some_iff.1 hy
  rw [he] at this
  simp at this
  omega
theorem alive_all {e : List PEn} (h : slotNo e = e.length) : aliveN e = e.length := by
  unfold aliveN
  rw [List.countP_eq_length]
  intro y hy
  obtain ⟨i, hi⟩ := List.getElem?_of_mem hy
  have hl := (List.getElem?_eq_some_iff.1 hi).1
  exact decide_eq_true (slotNo_before (by omega) hi)
theorem putE_len (e : List PEn) (y : PEn) : (putE e (slotNo e) y).length = if slotNo e < e.length then e.length else e.length + 1 := by
  unfold putE
  split <;> simp
theorem putE_at {e : List PEn} {y z : PEn} (h : (putE e (slotNo e) y)[i]? = some z) : (i = slotNo e ∧ z = y) ∨ (i ≠ slotNo e ∧ e[i]? = some z) := by
  unfold putE at h
  split at h
  · rename_i hl
    rw [List.getElem?_set] at h
    by_cases e1 : slotNo e = i
    · rw [if_pos e1, if_pos (by omega)] at h
      injection h with h
      exact .inl ⟨e1.symm, h.symm⟩
    · rw [if_neg e1] at h; exact .inr ⟨fun e2 => e1 e2.symm, h⟩
  · rename_i hl
    have h1 := slotNo_le e
    rw [List.getElem?_append] at h
    split at h
    · exact .inr ⟨by omega, h⟩
    · rename_i h2
      have h3 := (List.getElem?_eq_some_iff.1 h).1
      simp at h3
      have h4 : i - e.length = 0 := by omega
      rw [h4] at h; simp at h
      exact .inl ⟨by omega, h.symm⟩
theorem putE_new (e : List PEn) (y : PEn) : (putE e (slotNo e) y)[slotNo e]? = some y := by
  unfold putE
  split
  · rename_i hl; rw [List.getElem?_set, if_pos rfl, if_pos hl]
  · have := slotNo_le e
    rw [List.getElem?_append, if_neg (by omega), show slotNo e - e.length = 0 by omega]; rfl
theorem modify_at {f : PEn → PEn} {e : List PEn} (h : (e.modify j f)[i]? = some z) : ∃ y, e[i]? = some y ∧ z = if i = j then f y else y := by
  rw [List.getElem?_modify] at h
  cases he : e[i]? with
  | none => rw [he] at h; simp at h
  | some y =>
    rw [he] at h
    simp at h
    refine ⟨y, rfl, ?_⟩
    by_cases hij : j = i
    · subst hij; simpa using h.symm
    · rw [if_neg (fun e => hij e.symm)]; simpa [hij] using h.symm
theorem newQ_good {n : Nat} (h1 : 1 ≤ n) (h8 : n ≤ 8192) : GoodQ (newQ n) := ⟨h1, h8, by simp [newQ], by simp [newQ], by simp [newQ], by simp [newQ]⟩
theorem GoodQ.tick (h : GoodQ q) : GoodQ q.tick := ⟨h.n1, h.n8, h.len, h.key, fun y hy => Nat.le_succ_of_le (h.ut y hy), h.one⟩
theorem GoodQ.more (h : GoodQ q) (hy : q.e[j]? = some y) (hu : 0 < y.u) : GoodQ (q.more j) := by
  have key : ∀ (i : Nat) (z : PEn), (q.more j).e[i]? = some z → ∃ y', q.e[i]? = some y' ∧ z.k = y'.k ∧ z.u ≤ y'.u + 1 ∧ (0 < z.u → 0 < y'.u) := fun i z hz => by
    obtain ⟨y', hy', rfl⟩ := modify_at hz
    refine ⟨y', hy', ?_⟩
    split
    · rename_i e; subst e
      rw [hy] at hy'; injection hy' with hy'; subst hy'
      exact ⟨rfl, Nat.le_refl _, fun _ => hu⟩
    · exact ⟨rfl, by omega, fun h => h⟩
  refine ⟨h.n1, h.n8, by simpa [PSt.more] using h.len, fun z hz hzu => ?_, fun z hz => ?_, fun i k a b ha hb hau hbu e => ?_⟩
  · obtain ⟨i, hi⟩ := List.getElem?_of_mem hz
    obtain ⟨y', hy', e1, _, e3⟩ := key i z hi
    rw [e1]; exact h.key y' (List.mem_of_getElem? hy') (e3 hzu)
  · obtain ⟨i, hi⟩ := List.getElem?_of_mem hz
    obtain ⟨y', hy', _, e2, _⟩ := key i z hi
    have := h.ut y' (List.mem_of_getElem? hy')
    show z.u ≤ q.t + 1
    omega
  · obtain ⟨a', ha', e1, _, e3⟩ := key i a ha
    obtain ⟨b', hb', f1, _, f3⟩ := key k b hb
    exact h.one i k a' b' ha' hb' (e3 hau) (f3 hbu) (by rw [← e1, ← f1, e])
theorem GoodQ.less (h : GoodQ q) : GoodQ (q.less j) := by
  have key : ∀ (i : Nat) (z : PEn), (q.less j).e[i]? = some z → ∃ y', q.e[i]? = some y' ∧ z.k = y'.k ∧ z.u ≤ y'.u := fun i z hz => by
    obtain ⟨y', hy', rfl⟩ := modify_at hz
    refine ⟨y', hy', ?_⟩
    split
    · exact ⟨rfl, Nat.sub_le _ _⟩
    · exact ⟨rfl, Nat.le_refl _⟩
  refine ⟨h.n1, h.n8, by simpa [PSt.less] using h.len, fun z hz hzu => ?_, fun z hz => ?_, fun i k a b ha hb hau hbu e => ?_⟩
  · obtain ⟨i, hi⟩ := List.getElem?_of_mem hz
    obtain ⟨y', hy', e1, e3⟩ := key i z hi
    rw [e1]; exact h.key y' (List.mem_of_getElem? hy') (by omega)
  · obtain ⟨i, hi⟩ := List.getElem?_of_mem hz
    obtain ⟨y', hy', _, e2⟩ := key i z hi
    have := h.ut y' (List.mem_of_getElem? hy')
    show z.u ≤ q.t + 1
    omega
  · obtain ⟨a', ha', e1, e3⟩ := key i a ha
    obtain ⟨b', hb', f1, f3⟩ := key k b hb
    exact h.one i k a' b' ha' hb' (by omega) (by omega) (by rw [← e1, ← f1, e])
theorem GoodQ.put (h : GoodQ q) (h1 : 1 ≤ s.size) (h2 : s.size ≤ 255) (hf : q.find s = none) (hn : aliveN q.e ≠ q.n) (hd : Hd) : GoodQ (q.put s hd) := by
  have hnot := find_not hf
  refine ⟨h.n1, h.n8, ?_, fun z hz hzu => ?_, fun z hz => ?_, fun i k a b ha hb hau hbu e => ?_⟩
  · show (putE q.e (slotNo q.e) _).length ≤ q.n
    rw [putE_len]
    have h3 := slotNo_le q.e
    have h4 := h.len
    split
    · exact h4
    · have := alive_all (e := q.e) (by omega)
      omega
  · obtain ⟨i, hi⟩ := List.getElem?_of_mem hz
    rcases putE_at hi with ⟨_, rfl⟩ | ⟨_, hi⟩
    · exact ⟨h1, h2⟩
    · exact h.key z (List.mem_of_getElem? hi) hzu
  · obtain ⟨i, hi⟩ := List.getElem?_of_mem hz
    show z.u ≤ q.t + 1
    rcases putE_at hi with ⟨_, rfl⟩ | ⟨_, hi⟩
    · exact Nat.succ_le_succ (Nat.zero_le _)
    · have := h.ut z (List.mem_of_getElem? hi); omega
  · rcases putE_at ha with ⟨e1, rfl⟩ | ⟨_, ha⟩
    · rcases putE_at hb with ⟨e2, rfl⟩ | ⟨_, hb⟩
      · rw [e1, e2]
      · exact absurd e.symm (hnot b (List.mem_of_getElem? hb) hbu)
    · rcases putE_at hb with ⟨e2, rfl⟩ | ⟨_, hb⟩
      · exact absurd e (hnot a (List.mem_of_getElem? ha) hau)
      · exact h.one i k a b ha hb hau hbu e
theorem GoodQ.intern (h : GoodQ q) (x : ASt) (s : ByteArray) : GoodQ (q.intern x s).2 := by
  unfold PSt.intern
  split
  · exact h.tick
  · split
    · exact h.tick
    · cases hf : q.find s with
      | some i => obtain ⟨y, hy, hu, _⟩ := find_at hf; exact h.more hy hu
      | none =>
        simp only
        split
        · exact h.tick
        · split
          · exact h.put (by omega) (by omega) hf (by assumption) _
          · exact h.tick
theorem GoodQ.release (h : GoodQ q) (id : Int) : GoodQ (q.release id).2 := by
  unfold PSt.release
  split
  · exact h.tick
  · exact h.less
theorem intern_t (q : PSt) (x : ASt) (s : ByteArray) : (q.intern x s).2.t = q.t + 1 ∧ (q.intern x s).2.n = q.n := by
  unfold PSt.intern
  split
  · exact ⟨rfl, rfl⟩
  · split
    · exact ⟨rfl, rfl⟩
    · split
      · exact ⟨rfl, rfl⟩
      · split
        · exact ⟨rfl, rfl⟩
        · split <;> exact ⟨rfl, rfl⟩
theorem release_t (q : PSt) (id : Int) : (q.release id).2.t = q.t + 1 ∧ (q.release id).2.n = q.n := by
  unfold PSt.release
  split <;> exact ⟨rfl, rfl⟩

/-! ### the keys' slots -/
theorem Lnk.new (n : Nat) (x : ASt) : Lnk (newQ n) x := ⟨by simp [newQ], by simp [newQ]⟩
theorem Lnk.tick (h : Lnk q x) : Lnk q.tick x := ⟨h.slot, h.nd⟩
theorem Lnk.tickA (h : Lnk q x) : Lnk q x.tick := ⟨h.slot, h.nd⟩
theorem Lnk.find (h : Lnk q x) (hG : GoodA x) (hy : q.e[i]? = some y) (hu : 0 < y.u) : ∃ (j : Nat) (z : Sl), x.find y.h = some j ∧ x.s[j]? = some z ∧ z.u = true ∧ z.h = y.h ∧ z.b = sB y.k := by
  obtain ⟨j, z, hj, hzu, hh, hb⟩ := h.slot i y hy hu
  exact ⟨j, z, by rw [← hh]; exact hG.find_at hj hzu, hj, hzu, hh, hb⟩
theorem Lnk.read (h : Lnk q x) (hG : GoodA x) (hy : q.e[i]? = some y) (hu : 0 < y.u) : x.read y.h = ((sB y.k, 0), x.tick) := by
  obtain ⟨j, z, hf, hj, _, _, hb⟩ := h.find hG hy hu
  unfold ASt.read
  rw [hf]
  simp [hj, hb]
theorem Lnk.hd (h : Lnk q x) (hG : GoodA x) (hlt : x.t ≤ 1000000000) (hy : q.e[i]? = some y) (hu : 0 < y.u) : (0 ≤ y.h.1 ∧ y.h.1 ≤ 8) ∧ (0 ≤ y.h.2.1 ∧ y.h.2.1 ≤ 65536) ∧ 0 ≤ y.h.2.2 ∧ y.h.2.2 ≤ 1000000000 := by
  obtain ⟨j, z, hj, hzu, hh, hb⟩ := h.slot i y hy hu
  have hs := hG.sl z (List.mem_of_getElem? hj)
  have h8 := hG.l.n8
  have hc : z.c < x.nx.length := by rw [hG.nx]; exact hs.1
  have hg : x.nx[z.c]? = some x.nx[z.c] := List.getElem?_eq_getElem hc
  have h2 := hs.2.1
  rw [getD_at hg] at h2
  have h3 := hG.nxle hg
  obtain ⟨a1, a2, a3⟩ := h_eq hh
  omega
theorem Lnk.more (h : Lnk q x) (hy : q.e[j]? = some y) (hu : 0 < y.u) : Lnk (q.more j) x := by
  have key : ∀ (i : Nat) (z : PEn), (q.more j).e[i]? = some z → 0 < z.u → ∃ y', q.e[i]? = some y' ∧ z.k = y'.k ∧ z.h = y'.h ∧ 0 < y'.u := fun i z hz hzu => by
    obtain ⟨y', hy', rfl⟩ := modify_at hz
    refine ⟨y', hy', ?_⟩
    split
    · rename_i e; subst e
      rw [hy] at hy'; injection hy' with hy'; subst hy'
      exact ⟨rfl, rfl, hu⟩
    · rename_i e; rw [if_neg e] at hzu; exact ⟨rfl, rfl, hzu⟩
  refine ⟨fun i z hz hzu => ?_, fun i k a b ha hb hau hbu e => ?_⟩
  · obtain ⟨y', hy', e1, e2, e3⟩ := key i z hz hzu
    rw [e1, e2]; exact h.slot i y' hy' e3
  · obtain ⟨a', ha', _, e2, e3⟩ := key i a ha hau
    obtain ⟨b', hb', _, f2, f3⟩ := key k b hb hbu
    exact h.nd i k a' b' ha' hb' e3 f3 (by rw [← e2, ← f2, e])
theorem less_at {k : Nat} (hz : (q.less k).e[i]? = some z) (hzu : 0 < z.u) : ∃ y', q.e[i]? = some y' ∧ z.k = y'.k ∧ z.h = y'.h ∧ 0 < y'.u ∧ (i = k → 1 < y'.u) := by
  obtain ⟨y', hy', rfl⟩ := modify_at hz
  refine ⟨y', hy', ?_⟩
  split
  · rename_i e
    rw [if_pos e] at hzu
    simp only [PEn.down] at hzu
    exact ⟨rfl, rfl, by omega, fun _ => by omega⟩
  · rename_i e
    rw [if_neg e] at hzu
    exact ⟨rfl, rfl, hzu, fun e2 => absurd e2 e⟩
theorem Lnk.less (h : Lnk q x) (k : Nat) : Lnk (q.less k) x := by
  refine ⟨fun i z hz hzu => ?_, fun i k a b ha hb hau hbu e => ?_⟩
  · obtain ⟨y', hy', e1, e2, e3, _⟩ := less_at hz hzu
    rw [e1, e2]; exact h.slot i y' hy' e3
  · obtain ⟨a', ha', _, e2, e3, _⟩ := less_at ha hau
    obtain ⟨b', hb', _, f2, f3, _⟩ := less_at hb hbu
    exact h.nd i k a' b' ha' hb' e3 f3 (by rw [← e2, ← f2, e])
/-- The last user is gone, and the slot is freed. -/
theorem Lnk.gone (h : Lnk q x) (hG : GoodA x) (hy : q.e[i]? = some y) (hu : y.u = 1) : Lnk (q.less i) (x.free y.h).2 := by
  obtain ⟨j, z, hf, hj, hzu, hh, hb⟩ := h.find hG hy (by omega)
  have hL := h.less i
  refine ⟨fun k a ha hau => ?_, hL.nd⟩
  obtain ⟨a', ha', e1, e2, e3, e4⟩ := less_at ha hau
  have hik : k ≠ i := fun e => by
    subst e
    rw [hy] at ha'; injection ha' with ha'; subst ha'
    have := e4 rfl; omega
  obtain ⟨j', z', hj', hzu', hh', hb'⟩ := h.slot k a' ha' e3
  have hjj : ¬ j = j' := fun e => by
    subst e
    rw [hj] at hj'; injection hj' with hj'; subst hj'
    exact hik (h.nd k i a' y ha' hy e3 (by omega) (hh'.symm.trans hh))
  unfold ASt.free
  rw [hf]
  exact ⟨j', z', by simp [List.getElem?_modify, hjj, hj'], hzu', by rw [hh', e2], by rw [hb', e1]⟩
/-- A new key is stored. -/
theorem Lnk.stored (h : Lnk q x) (hG : GoodA x) (hf : q.find s = none) (h0 : (x.alloc s.size).1.2 = 0) : ((x.alloc s.size).2.write (x.alloc s.size).1.1 (sB s)).1 = 0 ∧ Lnk (q.put s (x.alloc s.size).1.1) ((x.alloc s.size).2.write (x.alloc s.size).1.1 (sB s)).2 := by
  obtain ⟨j, w, T⟩ := took hG s.size h0
  have hG' := hG.alloc s.size
  generalize (x.alloc s.size).1.1 = hd at T ⊢
  generalize (x.alloc s.size).2 = x' at T hG' ⊢
  have hw := hG'.sl w (List.mem_of_getElem? T.at_)
  have hff : x'.find hd = some j := by rw [← T.h]; exact hG'.find_at T.at_ T.u
  obtain ⟨a1, _, _⟩ := h_eq T.h
  have hc : hd.1.toNat = w.c := by omega
  have hfit := T.fit
  unfold fitP at hfit
  rw [if_pos (by
    by_cases h1 : (1 : Int) ≤ (s.size : Int)
    · exact h1
    · rw [if_neg h1] at hfit; cases hfit)] at hfit
  have hle := fitI_le hfit
  rw [← T.l] at hle
  unfold ASt.write
  rw [hff]
  simp only
  rw [hc, if_neg (by rw [sB_len]; omega)]
  have hslot : ∀ (j' : Nat) (z' : Sl), x.s[j']? = some z' → z'.u = true → j' ≠ j := fun j' z' hj' hzu' e => by
    subst e; rw [(T.was z' hj').1] at hzu'; cases hzu'
  have hput : (x'.s.modify j fun y => { y with b := sB s })[j]? = some { w with b := sB s } := by simp [List.getElem?_modify, T.at_]
  have hold : ∀ (j' : Nat) (z' : Sl), x.s[j']? = some z' → z'.u = true → (x'.s.modify j fun y => { y with b := sB s })[j']? = some z' := fun j' z' hj' hzu' => by
    have hne := hslot j' z' hj' hzu'
    have hne' : ¬ j = j' := fun e => hne e.symm
    simp [List.getElem?_modify, hne', T.rest j' hne, hj']
  have hapart : ∀ (i : Nat) (a : PEn), q.e[i]? = some a → 0 < a.u → a.h ≠ hd := fun i a ha hau e => by
    obtain ⟨j', z', hj', hzu', hh', _⟩ := h.slot i a ha hau
    have hne := hslot j' z' hj' hzu'
    have hj2 := (T.rest j' hne).trans hj'
    obtain ⟨b1, b2, _⟩ := h_eq hh'
    obtain ⟨c1, c2, _⟩ := h_eq T.h
    rw [e] at b1 b2
    exact hne (hG'.at_one hj2 T.at_ (by omega) (by omega))
  refine ⟨rfl, fun i a ha hau => ?_, fun i k a b ha hb hau hbu e => ?_⟩
  · rcases putE_at ha with ⟨_, rfl⟩ | ⟨_, ha⟩
    · exact ⟨j, _, hput, T.u, T.h, rfl⟩
    · obtain ⟨j', z', hj', hzu', hh', hb'⟩ := h.slot i a ha hau
      exact ⟨j', z', hold j' z' hj' hzu', hzu', hh', hb'⟩
  · rcases putE_at ha with ⟨e1, rfl⟩ | ⟨_, ha⟩
    · rcases putE_at hb with ⟨e2, rfl⟩ | ⟨_, hb⟩
      · rw [e1, e2]
      · exact absurd e.symm (hapart k b hb hbu)
    · rcases putE_at hb with ⟨e2, rfl⟩ | ⟨_, hb⟩
      · exact absurd e (hapart i a ha hau)
      · exact h.nd i k a b ha hb hau hbu e
/-- An allocation of somebody's. -/
theorem Lnk.alloc (h : Lnk q x) (hG : GoodA x) (z : Int) : Lnk q (x.alloc z).2 := by
  by_cases h0 : (x.alloc z).1.2 = 0
  · obtain ⟨j, w, T⟩ := took hG z h0
    refine ⟨fun i a ha hau => ?_, h.nd⟩
    obtain ⟨j', z', hj', hzu', hh', hb'⟩ := h.slot i a ha hau
    have hne : j' ≠ j := fun e => by subst e; rw [(T.was z' hj').1] at hzu'; cases hzu'
    exact ⟨j', z', (T.rest j' hne).trans hj', hzu', hh', hb'⟩
  · have : (x.alloc z).2.s = x.s := by
      unfold ASt.alloc at h0 ⊢
      split
      · rfl
      · rename_i c hc
        rw [hc] at h0
        unfold ASt.take at h0 ⊢
        split
        · rename_i p hp; simp [hp] at h0
        · rename_i hp
          split
          · rfl
          · rename_i hn; rw [List.getD_eq_getElem?_getD, List.getD_eq_getElem?_getD] at hn; simp [hp, hn] at h0
    exact ⟨fun i a ha hau => by rw [this]; exact h.slot i a ha hau, h.nd⟩
theorem inP_not (h : ¬ q.asks s) (x : ASt) : q.inP x s = x := if_neg h
theorem inR_not (h : ¬ q.asks s) (x : ASt) : q.inR x s = x := if_neg h
theorem inR_is (h : q.asks s) (x : ASt) : q.inR x s = (x.alloc s.size).2 := if_pos h
theorem inP_yes (h : q.asks s) (h0 : (x.alloc s.size).1.2 = 0) : q.inP x s = ((x.alloc s.size).2.write (x.alloc s.size).1.1 (sB s)).2 := by unfold PSt.inP; rw [if_pos h, if_pos h0]
theorem inP_full (h : q.asks s) (h0 : (x.alloc s.size).1.2 ≠ 0) : q.inP x s = (x.alloc s.size).2 := by unfold PSt.inP; rw [if_pos h, if_neg h0]
theorem intern_empty (h : s.size = 0) (x : ASt) : q.intern x s = ((0, 3), q.tick) := if_pos h
theorem intern_long (h : 255 < s.size) (x : ASt) : q.intern x s = ((0, 4), q.tick) := by unfold PSt.intern; rw [if_neg (by omega), if_pos h]
theorem intern_old (h1 : s.size ≠ 0) (h2 : ¬ 255 < s.size) (hf : q.find s = some i) (x : ASt) : q.intern x s = ((((i + 1 : Nat) : Int), 0), q.more i) := by unfold PSt.intern; rw [if_neg h1, if_neg h2, hf]
theorem intern_most (h1 : s.size ≠ 0) (h2 : ¬ 255 < s.size) (hf : q.find s = none) (hn : aliveN q.e = q.n) (x : ASt) : q.intern x s = ((0, 7), q.tick) := by unfold PSt.intern; rw [if_neg h1, if_neg h2, hf]; exact if_pos hn
theorem intern_new (h : q.asks s) (h0 : (x.alloc s.size).1.2 = 0) : q.intern x s = ((((slotNo q.e + 1 : Nat) : Int), 0), q.put s (x.alloc s.size).1.1) := by
  unfold PSt.intern; rw [if_neg h.1, if_neg h.2.1, h.2.2.1]; simp only; rw [if_neg h.2.2.2, if_pos h0]
theorem intern_full (h : q.asks s) (h0 : (x.alloc s.size).1.2 ≠ 0) : q.intern x s = ((0, (x.alloc s.size).1.2), q.tick) := by
  unfold PSt.intern; rw [if_neg h.1, if_neg h.2.1, h.2.2.1]; simp only; rw [if_neg h.2.2.2, if_neg h0]
/-- The ways of Intern. -/
theorem asks_ways (q : PSt) (s : ByteArray) : s.size = 0 ∨ 255 < s.size ∨ (s.size ≠ 0 ∧ ¬ 255 < s.size ∧ ∃ i, q.find s = some i) ∨ (s.size ≠ 0 ∧ ¬ 255 < s.size ∧ q.find s = none ∧ aliveN q.e = q.n) ∨ q.asks s := by
  by_cases h1 : s.size = 0
  · exact .inl h1
  by_cases h2 : 255 < s.size
  · exact .inr (.inl h2)
  cases hf : q.find s with
  | some i => exact .inr (.inr (.inl ⟨h1, h2, i, rfl⟩))
  | none =>
    by_cases h3 : aliveN q.e = q.n
    · exact .inr (.inr (.inr (.inl ⟨h1, h2, rfl, h3⟩)))
    · exact .inr (.inr (.inr (.inr ⟨h1, h2, hf, h3⟩)))
theorem Lnk.inP (h : Lnk q x) (hG : GoodA x) (s : ByteArray) : Lnk (q.intern x s).2 (q.inP x s) := by
  rcases asks_ways q s with h1 | h1 | ⟨h1, h2, i, hf⟩ | ⟨h1, h2, hf, h3⟩ | ha
  · rw [intern_empty h1, inP_not fun e => e.1 h1]; exact h.tick
  · rw [intern_long h1, inP_not fun e => e.2.1 h1]; exact h.tick
  · rw [intern_old h1 h2 hf, inP_not fun e => by rw [e.2.2.1] at hf; cases hf]
    obtain ⟨y, hy, hu, _⟩ := find_at hf
    exact h.more hy hu
  · rw [intern_most h1 h2 hf h3, inP_not fun e => e.2.2.2 h3]; exact h.tick
  · by_cases h0 : (x.alloc s.size).1.2 = 0
    · rw [intern_new ha h0, inP_yes ha h0]; exact (h.stored hG ha.2.2.1 h0).2
    · rw [intern_full ha h0, inP_full ha h0]; exact (h.alloc hG _).tick
theorem Lnk.teP (h : Lnk q x) (hG : GoodA x) (id : Int) : Lnk q (q.teP x id) := by
  unfold PSt.teP
  split
  · exact h
  · rename_i p hp
    obtain ⟨_, _, hy, hu, _⟩ := at_some hp
    rw [h.read hG hy hu]; exact h.tickA
theorem Lnk.reP (h : Lnk q x) (hG : GoodA x) (id : Int) : Lnk (q.release id).2 (q.reP x id) := by
  unfold PSt.release PSt.reP
  cases hp : q.at id with
  | none => exact h.tick
  | some p =>
    obtain ⟨_, _, hy, hu, _⟩ := at_some hp
    simp only
    split
    · rename_i h1
      rw [h.read hG hy hu]
      exact h.tickA.gone hG.tick hy h1
    · exact h.less _
end
end Go.Proofs.Ytenchaifnfgijaa
