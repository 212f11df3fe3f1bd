/- Words laid together in one text. Conditions: none beyond those typed. -/
import Derived.Test.YtbdafhephmoedaaBase
import Derived.Test.YtbdafhephmoedaaZcol
/- Arenas as plain data: classes, slots, what a call leaves, and what stays true of them. Conditions: none beyond those typed. -/
namespace Go.Proofs.Ytbdafhephmoedaa
set_option linter.unusedVariables false
set_option linter.unusedSimpArgs false

/-- A slot that was allocated: class, index, age, whether it is in use, its bytes. -/
structure Sl where
  c : Nat
  i : Nat
  a : Nat
  u : Bool
  b : List Int
/-- A handle: class, index, age. -/
abbrev Hd := Int × Int × Int
def Sl.h (x : Sl) : Hd := ((x.c : Int), (x.i : Int), (x.a : Int))
/-- An arena: its classes, its slots in the order in which they were allocated first, the free ones in the order in which they were freed, the next index of each class, the faults, the number of calls. -/
structure ASt where
  L : List (Int × Int)
  s : List Sl
  f : List Nat
  nx : List Nat
  fa : Nat
  t : Nat

/-- arena.Check, P8.1: the first error behind the class before. -/
def chkC (last : Int) : List (Int × Int) → Int
  | [] => 0
  | x :: r => if x.1 < 1 ∨ 4096 < x.1 ∨ x.2 < 0 ∨ 65536 < x.2 then 1 else if x.1 ≤ last then 6 else chkC x.1 r
def clsE (l : List (Int × Int)) : Int := if l.length = 0 ∨ 8 < l.length then 1 else chkC 0 l
/-- The first class that is large enough. -/
def fitI : List (Int × Int) → Int → Option Nat
  | [], _ => none
  | x :: r, z => if z ≤ x.1 then some 0 else (fitI r z).map (· + 1)
/-- Fit, P8.2. -/
def fitP (l : List (Int × Int)) (z : Int) : Option Nat := if 1 ≤ z then fitI l z else none
def fitR : Option Nat → Int × Int
  | some c => ((c : Int), 0)
  | none => (0, 1)

/-- The greatest place below n of the free list at which a slot of class c lies. -/
def lastAt (s : List Sl) (f : List Nat) (c : Nat) : Nat → Option Nat
  | 0 => none
  | n + 1 => if (f[n]?.bind fun j => s[j]?.map Sl.c) = some c then some n else lastAt s f c n
def Sl.again (x : Sl) : Sl := { x with a := x.a + 1, u := true, b := [] }
def ASt.tick (x : ASt) : ASt := { x with t := x.t + 1 }
/-- Alloc, P8.3: of a class. -/
def ASt.take (x : ASt) (c : Nat) : (Hd × Int) × ASt :=
  match lastAt x.s x.f c x.f.length with
  | some p =>
    let j := x.f.getD p 0
    let s := x.s.modify j Sl.again
    ((((s[j]?.map Sl.h).getD (0, 0, 0)), 0), { x with s := s, f := x.f.eraseIdx p, t := x.t + 1 })
  | none =>
    if ((x.nx.getD c 0 : Nat) : Int) = (x.L.getD c (0, 0)).2 then (((0, 0, 0), 7), x.tick)
    else ((((c : Int), ((x.nx.getD c 0 : Nat) : Int), 1), 0), { x with s := x.s ++ [⟨c, x.nx.getD c 0, 1, true, []⟩], nx := x.nx.set c (x.nx.getD c 0 + 1), t := x.t + 1 })
def ASt.alloc (x : ASt) (z : Int) : (Hd × Int) × ASt :=
  match fitP x.L z with
  | none => (((0, 0, 0), 1), x.tick)
  | some c => x.take c
/-- The slot of a live handle. -/
def ASt.find (x : ASt) (h : Hd) : Option Nat := x.s.findIdx? fun y => y.u && decide (y.h = h)
def ASt.fault (x : ASt) : ASt := { x with fa := x.fa + 1, t := x.t + 1 }
def ASt.free (x : ASt) (h : Hd) : Int × ASt :=
  match x.find h with
  | none => (9, x.fault)
  | some i => (0, { x with s := x.s.modify i fun y => { y with u := false }, f := x.f ++ [i], t := x.t + 1 })
def ASt.write (x : ASt) (h : Hd) (b : List Int) : Int × ASt :=
  match x.find h with
  | none => (9, x.fault)
  | some i => if (x.L.getD h.1.toNat (0, 0)).1 < (b.length : Int) then (4, x.tick) else (0, { x with s := x.s.modify i fun y => { y with b := b }, t := x.t + 1 })
def ASt.read (x : ASt) (h : Hd) : (List Int × Int) × ASt :=
  match x.find h with
  | none => (([], 9), x.fault)
  | some i => ((((x.s[i]?.map Sl.b).getD []), 0), x.tick)
/-- The slots in use of a class. -/
def liveN (s : List Sl) (c : Nat) : Nat := s.countP fun y => y.u && decide (y.c = c)
def liveL (n : Nat) (s : List Sl) : List Int := (List.range n).map fun c => ((liveN s c : Nat) : Int)
def bytesN (l : List (Int × Int)) (s : List Sl) : Int := (s.map fun y => if y.u then (l.getD y.c (0, 0)).1 else 0).sum

/-- Classes that are accepted. -/
structure GoodL (l : List (Int × Int)) : Prop where
  n1 : 1 ≤ l.length
  n8 : l.length ≤ 8
  ok : ∀ x ∈ l, 1 ≤ x.1 ∧ x.1 ≤ 4096 ∧ 0 ≤ x.2 ∧ x.2 ≤ 65536
/-- What is true of every arena. -/
structure GoodA (x : ASt) : Prop where
  l : GoodL x.L
  nx : x.nx.length = x.L.length
  cnt : ∀ c n : Nat, x.nx[c]? = some n → (n : Int) ≤ (x.L.getD c (0, 0)).2
  sl : ∀ y ∈ x.s, y.c < x.L.length ∧ y.i < x.nx.getD y.c 0 ∧ 1 ≤ y.a ∧ y.a ≤ x.t ∧ (∀ z ∈ y.b, 0 ≤ z ∧ z ≤ 255) ∧ (y.b.length : Int) ≤ (x.L.getD y.c (0, 0)).1
  one : (x.s.map fun y => (y.c, y.i)).Nodup
  sum : x.s.length = x.nx.sum
  fn : x.f.Nodup
  fu : ∀ j : Nat, j ∈ x.f ↔ ∃ y, x.s[j]? = some y ∧ y.u = false
  fa : x.fa ≤ x.t

theorem chk_good : ∀ (l : List (Int × Int)) (last : Int), chkC last l = 0 → ∀ x ∈ l, 1 ≤ x.1 ∧ x.1 ≤ 4096 ∧ 0 ≤ x.2 ∧ x.2 ≤ 65536
  | [], _, _, x, hx => by simp at hx
  | y :: r, last, h, x, hx => by
    unfold chkC at h
    split at h
    · simp at h
    · split at h
      · simp at h
      · rcases List.mem_cons.1 hx with rfl | hx
        · omega
        · exact chk_good r _ h x hx
theorem cls_good {l : List (Int × Int)} (h : clsE l = 0) : GoodL l := by
  unfold clsE at h
  split at h
  · simp at h
  · exact ⟨by omega, by omega, chk_good l 0 h⟩
theorem fitI_lt : ∀ {l : List (Int × Int)} {z : Int} {c : Nat}, fitI l z = some c → c < l.length
  | [], z, c, h => by simp [fitI] at h
  | x :: r, z, c, h => by
    unfold fitI at h
    split at h
    · injection h with h; subst h; simp
    · cases hr : fitI r z with
      | none => rw [hr] at h; simp at h
      | some q =>
        rw [hr] at h
        simp at h
        have := fitI_lt hr
        simp; omega
theorem fit_lt {l : List (Int × Int)} {z : Int} {c : Nat} (h : fitP l z = some c) : c < l.length := by
  unfold fitP at h
  split at h
  · exact fitI_lt h
  · cases h
theorem fitI_le : ∀ {l : List (Int × Int)} {z : Int} {c : Nat}, fitI l z = some c → z ≤ (l.getD c (0, 0)).1
  | [], z, c, h => by simp [fitI] at h
  | x :: r, z, c, h => by
    unfold fitI at h
    split at h
    · rename_i hz; injection h with h; subst h; simpa using hz
    · cases hr : fitI r z with
      | none => rw [hr] at h; simp at h
      | some q =>
        rw [hr] at h
        simp at h
        have := fitI_le hr
        subst h
        simpa using this
theorem lastAt_lt {s : List Sl} {f : List Nat} {c : Nat} : ∀ {n p : Nat}, lastAt s f c n = some p → p < n ∧ (f[p]?.bind fun j => s[j]?.map Sl.c) = some c
  | 0, p, h => by simp [lastAt] at h
  | n + 1, p, h => by
    unfold lastAt at h
    split at h
    · rename_i hc; injection h with h; subst h; exact ⟨by omega, hc⟩
    · have := lastAt_lt h; exact ⟨by omega, this.2⟩
/-- What lastAt has found: the place in the free list, the slot's number and the slot. -/
theorem lastAt_some {s : List Sl} {f : List Nat} {c n p : Nat} (h : lastAt s f c n = some p) : ∃ j y, f[p]? = some j ∧ s[j]? = some y ∧ y.c = c := by
  have h2 := (lastAt_lt h).2
  cases hf : f[p]? with
  | none => rw [hf] at h2; simp at h2
  | some j =>
    rw [hf] at h2
    simp at h2
    obtain ⟨y, hy, hc⟩ := h2
    exact ⟨j, y, rfl, hy, hc⟩

theorem getD_at {α : Type} {l : List α} {i : Nat} {a d : α} (h : l[i]? = some a) : l.getD i d = a := by rw [List.getD_eq_getElem?_getD, h]; rfl
theorem sum_le : ∀ (l : List Nat) (m : Nat), (∀ x ∈ l, x ≤ m) → l.sum ≤ l.length * m
  | [], m, _ => by simp
  | x :: r, m, h => by
    have := sum_le r m fun y hy => h y (by simp [hy])
    have := h x (by simp)
    rw [List.sum_cons, List.length_cons, Nat.add_mul]; omega
theorem sum_set : ∀ (l : List Nat) (i v : Nat), l[i]? = some v → (l.set i (v + 1)).sum = l.sum + 1
  | [], i, v, h => by simp at h
  | x :: r, 0, v, h => by simp at h; subst h; simp; omega
  | x :: r, i + 1, v, h => by
    have := sum_set r i v (by simpa using h)
    simp [this]; omega
section
variable {x : ASt}
theorem GoodA.nxle (h : GoodA x) {c n : Nat} (hn : x.nx[c]? = some n) : n ≤ 65536 := by
  have h1 := h.cnt c n hn
  have hc : c < x.L.length := by rw [← h.nx]; exact (List.getElem?_eq_some_iff.1 hn).1
  have hg : x.L[c]? = some x.L[c] := List.getElem?_eq_getElem hc
  rw [getD_at hg] at h1
  have := h.l.ok _ (List.getElem_mem hc)
  omega
/-- There are not too many slots. -/
theorem GoodA.few (h : GoodA x) : x.s.length ≤ 524288 := by
  rw [h.sum]
  have h1 := sum_le x.nx 65536 fun n hn => by
    obtain ⟨c, hc⟩ := List.getElem?_of_mem hn
    exact h.nxle hc
  have h2 := h.nx
  have h3 := h.l.n8
  have : x.nx.length * 65536 ≤ 8 * 65536 := Nat.mul_le_mul_right _ (by omega)
  omega
theorem GoodA.fin (h : GoodA x) {j : Nat} (hj : j ∈ x.f) : j < x.s.length := by
  obtain ⟨y, hy, _⟩ := (h.fu j).1 hj
  exact (List.getElem?_eq_some_iff.1 hy).1
theorem nodup_le : ∀ (n : Nat) (f : List Nat), f.Nodup → (∀ j ∈ f, j < n) → f.length ≤ n
  | 0, f, _, hl => by
    cases f with
    | nil => simp
    | cons a r => have := hl a (by simp); omega
  | n + 1, f, hn, hl => by
    have h1 := nodup_le n (f.erase n) (hn.erase n) fun j hj => by
      have h2 := (hn.mem_erase_iff).1 hj
      have h3 := hl j h2.2
      have := h2.1
      omega
    have h4 := List.length_erase (a := n) (l := f)
    split at h4 <;> omega
theorem GoodA.fewF (h : GoodA x) : x.f.length ≤ 524288 := Nat.le_trans (nodup_le _ x.f h.fn fun j hj => h.fin hj) h.few
theorem GoodA.tick (h : GoodA x) : GoodA x.tick :=
  ⟨h.l, h.nx, h.cnt, fun y hy => by have := h.sl y hy; simp only [ASt.tick]; exact ⟨this.1, this.2.1, this.2.2.1, by omega, this.2.2.2.2⟩, h.one, h.sum, h.fn, h.fu, by have := h.fa; simp only [ASt.tick]; omega⟩
theorem GoodA.fault (h : GoodA x) : GoodA x.fault :=
  ⟨h.l, h.nx, h.cnt, fun y hy => by have := h.sl y hy; simp only [ASt.fault]; exact ⟨this.1, this.2.1, this.2.2.1, by omega, this.2.2.2.2⟩, h.one, h.sum, h.fn, h.fu, by have := h.fa; simp only [ASt.fault]; omega⟩
end
end Go.Proofs.Ytbdafhephmoedaa

/- What stays true of an arena as plain data under every call. Conditions: none beyond those typed. -/
namespace Go.Proofs.Ytbdafhephmoedaa
set_option linter.unusedVariables false
set_option linter.unusedSimpArgs false

section
variable {x : ASt}
/-- One slot is turned, and the free list. -/
theorem GoodA.mod (h : GoodA x) {j : Nat} {y : Sl} {g : Sl → Sl} (hs : x.s[j]? = some y) (hc : (g y).c = y.c) (hi : (g y).i = y.i) (ha : 1 ≤ (g y).a ∧ (g y).a ≤ x.t + 1)
    (hb : (∀ z ∈ (g y).b, 0 ≤ z ∧ z ≤ 255) ∧ ((g y).b.length : Int) ≤ (x.L.getD y.c (0, 0)).1) {f' : List Nat} (hn : f'.Nodup)
    (hf : ∀ k, k ∈ f' ↔ (k ≠ j ∧ k ∈ x.f) ∨ (k = j ∧ (g y).u = false)) : GoodA { x with s := x.s.modify j g, f := f', t := x.t + 1 } := by
  have hat : ∀ k y', (x.s.modify j g)[k]? = some y' → (k ≠ j ∧ x.s[k]? = some y') ∨ (k = j ∧ y' = g y) := by
    intro k y' hy
    rw [List.getElem?_modify] at hy
    by_cases hk : j = k
    · subst hk
      rw [hs] at hy
      simp at hy
      exact .inr ⟨rfl, hy.symm⟩
    · simp [hk] at hy
      exact .inl ⟨fun e => hk e.symm, hy⟩
  refine ⟨h.l, h.nx, h.cnt, fun y' hy => ?_, ?_, ?_, hn, fun k => ?_, by have := h.fa; show x.fa ≤ x.t + 1; omega⟩
  · obtain ⟨k, hk⟩ := List.getElem?_of_mem hy
    rcases hat k y' hk with ⟨_, h1⟩ | ⟨_, rfl⟩
    · have := h.sl y' (List.mem_of_getElem? h1)
      exact ⟨this.1, this.2.1, this.2.2.1, Nat.le_succ_of_le this.2.2.2.1, this.2.2.2.2⟩
    · have := h.sl y (List.mem_of_getElem? hs)
      rw [hc, hi]
      exact ⟨this.1, this.2.1, ha.1, ha.2, hb⟩
  · have e : (x.s.modify j g).map (fun y => (y.c, y.i)) = x.s.map fun y => (y.c, y.i) := by
      apply List.ext_getElem?
      intro k
      rw [List.getElem?_map, List.getElem?_map, List.getElem?_modify]
      by_cases hk : j = k
      · subst hk
        rw [hs]; simp [hc, hi]
      · simp [hk]
    show ((x.s.modify j g).map fun y => (y.c, y.i)).Nodup
    rw [e]; exact h.one
  · show (x.s.modify j g).length = x.nx.sum
    rw [List.length_modify]; exact h.sum
  · show k ∈ f' ↔ ∃ y', (x.s.modify j g)[k]? = some y' ∧ y'.u = false
    rw [hf, List.getElem?_modify]
    by_cases hk : j = k
    · subst hk
      rw [hs]; simp
    · have hk' : k ≠ j := fun e => hk e.symm
      rw [h.fu k]
      simp [hk, hk']
theorem find_some {h : Hd} {i : Nat} (e : x.find h = some i) : ∃ y, x.s[i]? = some y ∧ y.u = true ∧ y.h = h := by
  obtain ⟨hi, hp, _⟩ := List.findIdx?_eq_some_iff_getElem.1 e
  simp at hp
  exact ⟨_, List.getElem?_eq_getElem hi, hp.1, hp.2⟩
theorem find_none {h : Hd} (e : x.find h = none) : ∀ y ∈ x.s, y.u = true → y.h ≠ h := fun y hy hu he => by
  have := List.findIdx?_eq_none_iff.1 e y hy
  simp [hu, he] at this
theorem GoodA.at_one (h : GoodA x) {i j : Nat} {y z : Sl} (hi : x.s[i]? = some y) (hj : x.s[j]? = some z) (hc : y.c = z.c) (hx : y.i = z.i) : i = j := by
  have h1 := List.getElem?_eq_some_iff.1 hi
  have h2 := List.getElem?_eq_some_iff.1 hj
  obtain ⟨l1, e1⟩ := h1
  obtain ⟨l2, e2⟩ := h2
  have := (List.getElem_inj (xs := x.s.map fun y : Sl => (y.c, y.i)) (i := i) (j := j) (h₀ := by simpa using l1) (h₁ := by simpa using l2) h.one).1 (by simp [e1, e2, hc, hx])
  exact this
/-- find finds the slot. -/
theorem GoodA.find_at (h : GoodA x) {i : Nat} {y : Sl} (hi : x.s[i]? = some y) (hu : y.u = true) : x.find y.h = some i := by
  cases e : x.find y.h with
  | none => exact absurd rfl (find_none e y (List.mem_of_getElem? hi) hu)
  | some j =>
    obtain ⟨z, hz, _, hh⟩ := find_some e
    have hh' : ((z.c : Int), (z.i : Int), (z.a : Int)) = ((y.c : Int), (y.i : Int), (y.a : Int)) := hh
    injection hh' with e1 e2
    injection e2 with e2 e3
    rw [h.at_one hz hi (by omega) (by omega)]
theorem mem_erase_at {f : List Nat} {p j k : Nat} (hn : f.Nodup) (hp : f[p]? = some j) : k ∈ f.eraseIdx p ↔ k ≠ j ∧ k ∈ f := by
  obtain ⟨hl, he⟩ := List.getElem?_eq_some_iff.1 hp
  have e : f = f.take p ++ j :: f.drop (p + 1) := by rw [← he, ← List.drop_eq_getElem_cons hl, List.take_append_drop]
  rw [List.eraseIdx_eq_take_drop_succ]
  have hn' := hn
  rw [e, List.nodup_append, List.nodup_cons] at hn'
  obtain ⟨_, ⟨h2, _⟩, h3⟩ := hn'
  constructor
  · intro hk
    rcases List.mem_append.1 hk with hk | hk
    · exact ⟨h3 k hk j (by simp), List.mem_of_mem_take hk⟩
    · exact ⟨fun e2 => h2 (e2 ▸ hk), List.mem_of_mem_drop hk⟩
  · rintro ⟨h1, hk⟩
    rw [e] at hk
    rcases List.mem_append.1 hk with hk | hk
    · exact List.mem_append.2 (.inl hk)
    · rcases List.mem_cons.1 hk with hk | hk
      · exact absurd hk h1
      · exact List.mem_append.2 (.inr hk)
theorem GoodA.take (h : GoodA x) {c : Nat} (hc : c < x.L.length) : GoodA (x.take c).2 := by
  unfold ASt.take
  split
  · rename_i p hp
    obtain ⟨j, y, hf, hs, hyc⟩ := lastAt_some hp
    have hj : x.f.getD p 0 = j := getD_at hf
    have hy := h.sl y (List.mem_of_getElem? hs)
    rw [hj]
    exact h.mod (g := Sl.again) hs rfl rfl ⟨by simp [Sl.again], by simp [Sl.again]; omega⟩ ⟨by simp [Sl.again], by
      have hg : x.L[y.c]? = some x.L[y.c] := List.getElem?_eq_getElem hy.1
      rw [getD_at hg]
      have := h.l.ok _ (List.getElem_mem hy.1)
      simp [Sl.again]; omega⟩ ((List.eraseIdx_sublist _ _).nodup h.fn) fun k => by
      rw [mem_erase_at h.fn hf]; simp [Sl.again]
  · split
    · exact h.tick
    · rename_i hlast hne
      have hcn : c < x.nx.length := by rw [h.nx]; exact hc
      have hg : x.nx[c]? = some x.nx[c] := List.getElem?_eq_getElem hcn
      have hle := h.cnt c _ hg
      rw [getD_at hg] at hne ⊢
      have hL : x.L[c]? = some x.L[c] := List.getElem?_eq_getElem hc
      have hok := h.l.ok _ (List.getElem_mem hc)
      refine ⟨h.l, by simp [h.nx], fun c' n hn => ?_, fun y hy => ?_, ?_, ?_, h.fn, fun k => ?_, by have := h.fa; show x.fa ≤ x.t + 1; omega⟩
      · have hn : (x.nx.set c (x.nx[c] + 1))[c']? = some n := hn
        rw [List.getElem?_set] at hn
        split at hn
        · rename_i e
          subst e
          simp [hcn] at hn
          subst hn
          show ((x.nx[c] + 1 : Nat) : Int) ≤ (x.L.getD c (0, 0)).2
          omega
        · exact h.cnt c' n hn
      · have hy : y ∈ x.s ++ [⟨c, x.nx[c], 1, true, []⟩] := hy
        have hge : ∀ d, x.nx.getD d 0 ≤ (x.nx.set c (x.nx[c] + 1)).getD d 0 := fun d => by
          rw [List.getD_eq_getElem?_getD, List.getD_eq_getElem?_getD, List.getElem?_set]
          split
          · rename_i e; subst e; simp [hcn, hg]
          · exact Nat.le_refl _
        rcases List.mem_append.1 hy with hy | hy
        · have := h.sl y hy
          exact ⟨this.1, Nat.lt_of_lt_of_le this.2.1 (hge _), this.2.2.1, Nat.le_succ_of_le this.2.2.2.1, this.2.2.2.2⟩
        · simp at hy
          subst hy
          refine ⟨hc, ?_, Nat.le_refl _, by show 1 ≤ x.t + 1; omega, by simp, ?_⟩
          · show x.nx[c] < (x.nx.set c (x.nx[c] + 1)).getD c 0
            rw [List.getD_eq_getElem?_getD, List.getElem?_set]
            simp [hcn]
          · show ((0 : Nat) : Int) ≤ (x.L.getD c (0, 0)).1
            rw [getD_at hL]; omega
      · show ((x.s ++ [(⟨c, x.nx[c], 1, true, []⟩ : Sl)]).map fun y => (y.c, y.i)).Nodup
        rw [List.map_append, List.nodup_append]
        refine ⟨h.one, by simp, fun a ha b hb => ?_⟩
        simp at hb
        subst hb
        obtain ⟨y, hy, rfl⟩ := List.mem_map.1 ha
        have := (h.sl y hy).2.1
        intro e
        injection e with e1 e2
        rw [e1, getD_at hg] at this
        omega
      · show (x.s ++ [(⟨c, x.nx[c], 1, true, []⟩ : Sl)]).length = (x.nx.set c (x.nx[c] + 1)).sum
        rw [sum_set x.nx c _ hg, List.length_append, h.sum]; rfl
      · show k ∈ x.f ↔ ∃ y, (x.s ++ [(⟨c, x.nx[c], 1, true, []⟩ : Sl)])[k]? = some y ∧ y.u = false
        rw [h.fu k, List.getElem?_append]
        split
        · exact Iff.rfl
        · rename_i hk
          constructor
          · rintro ⟨y, hy, _⟩
            exact absurd (List.getElem?_eq_some_iff.1 hy).1 hk
          · rintro ⟨y, hy, hu⟩
            have := List.mem_of_getElem? hy
            simp at this
            subst this
            simp at hu
theorem GoodA.alloc (h : GoodA x) (z : Int) : GoodA (x.alloc z).2 := by
  unfold ASt.alloc
  split
  · exact h.tick
  · rename_i c hc; exact h.take (fit_lt hc)
theorem GoodA.free (h : GoodA x) (hd : Hd) : GoodA (x.free hd).2 := by
  unfold ASt.free
  split
  · exact h.fault
  · rename_i i hi
    obtain ⟨y, hs, hu, _⟩ := find_some hi
    have hy := h.sl y (List.mem_of_getElem? hs)
    have hni : i ∉ x.f := fun hc => by
      obtain ⟨z, hz, hzu⟩ := (h.fu i).1 hc
      rw [hs] at hz; injection hz with hz; subst hz
      rw [hu] at hzu; cases hzu
    exact h.mod (g := fun y => { y with u := false }) hs rfl rfl ⟨hy.2.2.1, by show y.a ≤ x.t + 1; omega⟩ hy.2.2.2.2
      (List.nodup_append.2 ⟨h.fn, by simp, fun a ha b hb => by simp at hb; subst hb; rintro rfl; exact hni ha⟩) fun k => by
        simp only [List.mem_append, List.mem_singleton, and_true]
        constructor
        · rintro (hk | rfl)
          · exact .inl ⟨fun e => hni (e ▸ hk), hk⟩
          · exact .inr rfl
        · rintro (⟨_, hk⟩ | rfl)
          · exact .inl hk
          · exact .inr rfl
theorem GoodA.write (h : GoodA x) (hd : Hd) {b : List Int} (hb : ∀ z ∈ b, 0 ≤ z ∧ z ≤ 255) : GoodA (x.write hd b).2 := by
  unfold ASt.write
  split
  · exact h.fault
  · rename_i i hi
    obtain ⟨y, hs, hu, he⟩ := find_some hi
    have hy := h.sl y (List.mem_of_getElem? hs)
    have hcc : hd.1.toNat = y.c := by rw [← he]; simp [Sl.h]
    rw [hcc]
    split
    · exact h.tick
    · rename_i hle
      exact h.mod (g := fun y => { y with b := b }) hs rfl rfl ⟨hy.2.2.1, by show y.a ≤ x.t + 1; omega⟩ ⟨hb, by show (b.length : Int) ≤ _; omega⟩ h.fn fun k => by
        constructor
        · intro hk
          by_cases e : k = i
          · subst e
            obtain ⟨z, hz, hzu⟩ := (h.fu k).1 hk
            rw [hs] at hz; injection hz with hz; subst hz
            rw [hu] at hzu; cases hzu
          · exact .inl ⟨e, hk⟩
        · rintro (⟨_, hk⟩ | ⟨rfl, hu'⟩)
          · exact hk
          · simp [hu] at hu'
theorem GoodA.read (h : GoodA x) (hd : Hd) : GoodA (x.read hd).2 := by
  unfold ASt.read
  split
  · exact h.fault
  · exact h.tick
end
end Go.Proofs.Ytbdafhephmoedaa

/- Numbers, classes, handles and slots in memory; the specified arena in memory. Conditions: none beyond those typed. -/
namespace Go.Proofs.Ytbdafhephmoedaa
open Go.ChangeShapes Go.WideShapes Go.ChangeAt Go.RowKit
set_option linter.unusedVariables false
set_option linter.unusedSimpArgs false
set_option maxRecDepth 100000

theorem two_mem {u x y : Value} (h : u ∈ [x, y]) : u = x ∨ u = y := by simpa using h
theorem three_mem {u x y z : Value} (h : u ∈ [x, y, z]) : u = x ∨ u = y ∨ u = z := by simpa using h
/-- Numbers. -/
def kI : Kind Int where
  ty := 3
  sl := 34
  k := 1
  by_ := 8
  zero := .int .i64 0
  enc := fun z => [.int .i64 z]
  pos := by omega
  len := fun _ => rfl
  one := fun a u hu => by rw [List.mem_singleton.1 hu]; rfl
  under := Try.underlying34
  info := by kernel_rfl
  zk := rfl
  small := by omega
section
variable {w : World} {A : Option Addr} {n c j : Nat}
theorem RdG.atI {l : List Int} (h : RdG kI w A n c l) (hj : j < n) : ∃ b o p, A = some ⟨b, o, none⟩ ∧ l[j]? = some p ∧ p ∈ l ∧ b < w.heap.size ∧ w.cell? ⟨b, o + j, none⟩ = some (.int .i64 p) := by
  obtain ⟨b, o, p, hA, hl, hm, hb, hc⟩ := h.at_ hj
  have c0 := hc 0 _ rfl
  simp only [show kI.k = 1 from rfl, Nat.mul_one, Nat.add_zero] at c0
  exact ⟨b, o, p, hA, hl, hm, hb, c0⟩
end
/-- The row's next element, and the rest. -/
theorem drop_at {α : Type} {l : List α} {k : Nat} {x : α} (h : l[k]? = some x) : l.drop k = x :: l.drop (k + 1) := by
  obtain ⟨hl, he⟩ := List.getElem?_eq_some_iff.1 h
  rw [← he, List.drop_eq_getElem_cons hl]
theorem ret2_i64 {a b c d : Int} (h : a = c) (h' : b = d) : Ending.returned (.tuple #[.int .i64 a, .int .i64 b]) = .returned (.tuple #[.int .i64 c, .int .i64 d]) := by rw [h, h']
end Go.Proofs.Ytbdafhephmoedaa
