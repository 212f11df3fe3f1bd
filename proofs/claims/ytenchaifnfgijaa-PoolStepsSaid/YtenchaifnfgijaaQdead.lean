/- The numbers that no key has, least first; arenas that differ in the bytes of their slots alone. Conditions: none beyond those typed. -/
import Derived.Test.YtenchaifnfgijaaQmath
namespace Go.Proofs.Ytenchaifnfgijaa
set_option linter.unusedVariables false
set_option linter.unusedSimpArgs false

/-- The numbers, counted from i on, that no key has. -/
def deadFrom (i : Nat) : List PEn → List Nat
  | [] => []
  | y :: r => if y.u = 0 then i :: deadFrom (i + 1) r else deadFrom (i + 1) r
theorem dead_ge : ∀ (e : List PEn) (i : Nat), ∀ d ∈ deadFrom i e, i ≤ d ∧ d < i + e.length
  | [], i, d, h => by simp [deadFrom] at h
  | y :: r, i, d, h => by
    unfold deadFrom at h
    split at h
    · rcases List.mem_cons.1 h with rfl | h
      · simp
      · have := dead_ge r (i + 1) d h; simp; omega
    · have := dead_ge r (i + 1) d h; simp; omega
theorem dead_mem : ∀ (e : List PEn) (i d : Nat), d ∈ deadFrom i e → ∃ (j : Nat) (y : PEn), d = i + j ∧ e[j]? = some y ∧ y.u = 0
  | [], i, d, h => by simp [deadFrom] at h
  | y :: r, i, d, h => by
    unfold deadFrom at h
    split at h
    · rename_i h0
      rcases List.mem_cons.1 h with rfl | h
      · exact ⟨0, y, rfl, rfl, h0⟩
      · obtain ⟨j, z, hd, hz, hu⟩ := dead_mem r (i + 1) d h
        exact ⟨j + 1, z, by omega, by simpa using hz, hu⟩
    · obtain ⟨j, z, hd, hz, hu⟩ := dead_mem r (i + 1) d h
      exact ⟨j + 1, z, by omega, by simpa using hz, hu⟩
theorem dead_sorted : ∀ (e : List PEn) (i : Nat), (deadFrom i e).Pairwise (· < ·)
  | [], i => List.Pairwise.nil
  | y :: r, i => by
    unfold deadFrom
    split
    · exact List.pairwise_cons.2 ⟨fun d hd => by have := dead_ge r (i + 1) d hd; omega, dead_sorted r (i + 1)⟩
    · exact dead_sorted r (i + 1)
theorem dead_nil : ∀ (e : List PEn) (i : Nat), deadFrom i e = [] → slotNo e = e.length
  | [], i, _ => rfl
  | y :: r, i, h => by
    unfold deadFrom at h
    split at h
    · cases h
    · rename_i h0
      have := dead_nil r (i + 1) h
      simp [slotNo, List.findIdx_cons, h0] at this ⊢
      exact this
/-- The least one. -/
theorem dead_cons : ∀ (e : List PEn) (i d : Nat) (l : List Nat), deadFrom i e = d :: l → d = i + slotNo e ∧ slotNo e < e.length ∧ ∀ y : PEn, 0 < y.u → deadFrom i (e.set (slotNo e) y) = l
  | [], i, d, l, h => by simp [deadFrom] at h
  | y :: r, i, d, l, h => by
    unfold deadFrom at h
    split at h
    · rename_i h0
      injection h with h1 h2
      subst h1 h2
      have e0 : slotNo (y :: r) = 0 := by simp [slotNo, List.findIdx_cons, h0]
      rw [e0]
      refine ⟨rfl, by simp, fun z hz => ?_⟩
      show (if z.u = 0 then i :: deadFrom (i + 1) r else deadFrom (i + 1) r) = _
      rw [if_neg (by omega)]
    · rename_i h0
      obtain ⟨h1, h2, h3⟩ := dead_cons r (i + 1) d l h
      have e0 : slotNo (y :: r) = slotNo r + 1 := by simp [slotNo, List.findIdx_cons, h0]
      rw [e0]
      refine ⟨by omega, by simp; omega, fun z hz => ?_⟩
      show deadFrom i (y :: r.set (slotNo r) z) = l
      unfold deadFrom
      rw [if_neg h0, h3 z hz]
theorem dead_append : ∀ (e : List PEn) (i : Nat) (y : PEn), 0 < y.u → deadFrom i (e ++ [y]) = deadFrom i e
  | [], i, y, h => by simp [deadFrom]; omega
  | z :: r, i, y, h => by
    show deadFrom i (z :: (r ++ [y])) = _
    unfold deadFrom
    rw [dead_append r (i + 1) y h]
/-- One more. -/
theorem dead_set : ∀ (e : List PEn) (i j : Nat) (y z : PEn), e[j]? = some y → 0 < y.u → z.u = 0 → deadFrom i (e.set j z) = (deadFrom i e).filter (fun d => decide (d < i + j)) ++ (i + j) :: (deadFrom i e).filter (fun d => decide (i + j < d))
  | [], i, j, y, z, h, _, _ => by simp at h
  | a :: r, i, 0, y, z, h, hu, hz => by
    simp at h; subst h
    show deadFrom i (z :: r) = _
    unfold deadFrom
    rw [if_pos hz, if_neg (by omega)]
    have h1 : (deadFrom (i + 1) r).filter (fun d => decide (d < i + 0)) = [] := List.filter_eq_nil_iff.2 fun d hd => by have := dead_ge r (i + 1) d hd; simp; omega
    have h2 : (deadFrom (i + 1) r).filter (fun d => decide (i + 0 < d)) = deadFrom (i + 1) r := List.filter_eq_self.2 fun d hd => by have := dead_ge r (i + 1) d hd; simp; omega
    rw [h1, h2]; rfl
  | a :: r, i, j + 1, y, z, h, hu, hz => by
    have ih := dead_set r (i + 1) j y z (by simpa using h) hu hz
    rw [show i + 1 + j = i + (j + 1) by omega] at ih
    show deadFrom i (a :: r.set j z) = _
    unfold deadFrom
    by_cases h0 : a.u = 0
    · rw [if_pos h0, if_pos h0, ih, List.filter_cons, List.filter_cons, if_pos (by simp), if_neg (by simp)]; rfl
    · rw [if_neg h0, if_neg h0, ih]
theorem sorted_parts : ∀ (l : List Nat) (x : Nat), l.Pairwise (· < ·) → x ∉ l → l = l.filter (fun d => decide (d < x)) ++ l.filter (fun d => decide (x < d))
  | [], x, _, _ => rfl
  | a :: r, x, h, hx => by
    obtain ⟨h1, h2⟩ := List.pairwise_cons.1 h
    have hxa : x ≠ a := fun e => hx (by simp [e])
    have ih := sorted_parts r x h2 (fun hm => hx (by simp [hm]))
    by_cases ha : a < x
    · rw [List.filter_cons, List.filter_cons, if_pos (by simpa using ha), if_neg (by simp; omega), List.cons_append, ← ih]
    · have h3 : r.filter (fun d => decide (d < x)) = [] := List.filter_eq_nil_iff.2 fun d hd => by have := h1 d hd; simp; omega
      rw [h3, List.nil_append] at ih
      rw [List.filter_cons, List.filter_cons, if_neg (by simpa using ha), if_pos (by simp; omega), h3, List.nil_append, ← ih]
/-- The free numbers as the program keeps them: the least one is at the end. -/
def freedQ (e : List PEn) : List Nat := (deadFrom 1 e).reverse
theorem freed_len (e : List PEn) : (freedQ e).length ≤ e.length := by
  unfold freedQ
  rw [List.length_reverse]
  have : ∀ (e : List PEn) (i : Nat), (deadFrom i e).length ≤ e.length := by
    intro e
    induction e with
    | nil => intro i; simp [deadFrom]
    | cons a r ih => intro i; have := ih (i + 1); unfold deadFrom; split <;> simp <;> omega
  exact this e 1
theorem freed_mem {e : List PEn} {d : Nat} (h : d ∈ freedQ e) : 1 ≤ d ∧ d ≤ e.length := by
  unfold freedQ at h
  have := dead_ge e 1 d (List.mem_reverse.1 h)
  omega
/-- No number is free. -/
theorem freed_nil {e : List PEn} (h : freedQ e = []) : slotNo e = e.length := dead_nil e 1 (by unfold freedQ at h; simpa using h)
/-- The least one is the last. -/
theorem freed_last {e : List PEn} {l : List Nat} {d : Nat} (h : freedQ e = l ++ [d]) : d = slotNo e + 1 ∧ slotNo e < e.length ∧ ∀ y : PEn, 0 < y.u → freedQ (e.set (slotNo e) y) = l := by
  have h1 : deadFrom 1 e = d :: l.reverse := by
    have := congrArg List.reverse h
    unfold freedQ at this
    simpa using this
  obtain ⟨h2, h3, h4⟩ := dead_cons e 1 d l.reverse h1
  exact ⟨by omega, h3, fun y hy => by unfold freedQ; rw [h4 y hy]; simp⟩
theorem freed_append {e : List PEn} {y : PEn} (hy : 0 < y.u) : freedQ (e ++ [y]) = freedQ e := by unfold freedQ; rw [dead_append e 1 y hy]
/-- How many free numbers are greater. -/
def above (e : List PEn) (id : Nat) : Nat := ((freedQ e).filter fun d => decide (id < d)).length
theorem freed_parts {e : List PEn} {j : Nat} {y z : PEn} (hy : e[j]? = some y) (hu : 0 < y.u) (hz : z.u = 0) :
    freedQ (e.set j z) = (freedQ e).take (above e (j + 1)) ++ (j + 1) :: (freedQ e).drop (above e (j + 1)) ∧ above e (j + 1) ≤ (freedQ e).length ∧ (∀ d ∈ (freedQ e).take (above e (j + 1)), j + 1 < d) ∧ ∀ d ∈ (freedQ e).drop (above e (j + 1)), d < j + 1 := by
  have hn : (1 + j) ∉ deadFrom 1 e := fun hm => by
    obtain ⟨i, w, h1, h2, h3⟩ := dead_mem e 1 _ hm
    obtain rfl : i = j := by omega
    rw [hy] at h2; injection h2 with h2; subst h2; omega
  have h1 := sorted_parts (deadFrom 1 e) (1 + j) (dead_sorted e 1) hn
  have h2 := dead_set e 1 j y z hy hu hz
  rw [show 1 + j = j + 1 by omega] at h1 h2
  have h3 : freedQ e = ((deadFrom 1 e).filter fun d => decide (j + 1 < d)).reverse ++ ((deadFrom 1 e).filter fun d => decide (d < j + 1)).reverse := by
    unfold freedQ; conv => lhs; rw [h1]
    rw [List.reverse_append]
  have h4 : above e (j + 1) = ((deadFrom 1 e).filter fun d => decide (j + 1 < d)).reverse.length := by
    unfold above freedQ; rw [List.filter_reverse]
  have h5 : (freedQ e).take (above e (j + 1)) = ((deadFrom 1 e).filter fun d => decide (j + 1 < d)).reverse := by rw [h3, h4, List.take_left']; rfl
  have h6 : (freedQ e).drop (above e (j + 1)) = ((deadFrom 1 e).filter fun d => decide (d < j + 1)).reverse := by rw [h3, h4, List.drop_left']; rfl
  refine ⟨?_, ?_, fun d hd => ?_, fun d hd => ?_⟩
  · rw [h5, h6]; unfold freedQ; rw [h2]; simp
  · unfold above; exact List.length_filter_le _ _
  · rw [h5] at hd; simpa using (List.mem_filter.1 (List.mem_reverse.1 hd)).2
  · rw [h6] at hd; simpa using (List.mem_filter.1 (List.mem_reverse.1 hd)).2

/-! ### arenas that differ in bytes alone -/
def Sl.bare (y : Sl) : Sl := { y with b := [] }
/-- x and y differ in the bytes of their slots, and in the number of calls, alone. -/
structure Alike (x y : ASt) : Prop where
  l : x.L = y.L
  f : x.f = y.f
  nx : x.nx = y.nx
  fa : x.fa = y.fa
  s : x.s.map Sl.bare = y.s.map Sl.bare
section
variable {x y z : ASt} {h : Hd}
theorem Alike.refl (x : ASt) : Alike x x := ⟨rfl, rfl, rfl, rfl, rfl⟩
theorem Alike.trans (a : Alike x y) (b : Alike y z) : Alike x z := ⟨a.l.trans b.l, a.f.trans b.f, a.nx.trans b.nx, a.fa.trans b.fa, a.s.trans b.s⟩
theorem Alike.symm (a : Alike x y) : Alike y x := ⟨a.l.symm, a.f.symm, a.nx.symm, a.fa.symm, a.s.symm⟩
theorem Alike.len (a : Alike x y) : x.s.length = y.s.length := by have := congrArg List.length a.s; simpa using this
theorem Alike.at_ (a : Alike x y) (i : Nat) : x.s[i]?.map Sl.bare = y.s[i]?.map Sl.bare := by have := congrArg (fun l : List Sl => l[i]?) a.s; simpa using this
theorem bare_h (y : Sl) : y.bare.h = y.h := rfl
theorem bare_fun {β : Type} {g : Sl → β} (hg : ∀ y : Sl, g y.bare = g y) {s : List Sl} (i : Nat) : s[i]?.map g = (s[i]?.map Sl.bare).map g := by
  rw [Option.map_map]; congr 1; funext y; exact (hg y).symm
theorem Alike.map {β : Type} (a : Alike x y) {g : Sl → β} (hg : ∀ y : Sl, g y.bare = g y) (i : Nat) : x.s[i]?.map g = y.s[i]?.map g := by rw [bare_fun hg, bare_fun hg (s := y.s), a.at_ i]
theorem Alike.last (a : Alike x y) (c : Nat) : ∀ n, lastAt x.s x.f c n = lastAt y.s y.f c n
  | 0 => rfl
  | n + 1 => by
    unfold lastAt
    rw [a.last c n, a.f]
    have : (y.f[n]?.bind fun j => x.s[j]?.map Sl.c) = y.f[n]?.bind fun j => y.s[j]?.map Sl.c := by congr 1; funext j; exact a.map (fun _ => rfl) j
    rw [this]
theorem findIdx_map {α : Type} {p : α → Bool} {s t : List α} {g : α → α} (hg : ∀ a, p (g a) = p a) (h : s.map g = t.map g) : s.findIdx? p = t.findIdx? p := by
  have : ∀ l : List α, (l.map g).findIdx? p = l.findIdx? p := fun l => by rw [List.findIdx?_map]; congr 1; funext a; exact hg a
  rw [← this s, ← this t, h]
theorem Alike.find (a : Alike x y) (h : Hd) : x.find h = y.find h := findIdx_map (g := Sl.bare) (fun _ => rfl) a.s
theorem bare_modify {s t : List Sl} {g : Sl → Sl} {j : Nat} (hg : ∀ y z : Sl, y.bare = z.bare → (g y).bare = (g z).bare) (h : s.map Sl.bare = t.map Sl.bare) : (s.modify j g).map Sl.bare = (t.modify j g).map Sl.bare := by
  apply List.ext_getElem?
  intro i
  have hi : s[i]?.map Sl.bare = t[i]?.map Sl.bare := by have := congrArg (fun l : List Sl => l[i]?) h; simpa using this
  rw [List.getElem?_map, List.getElem?_map, List.getElem?_modify, List.getElem?_modify]
  cases hs : s[i]? with
  | none =>
    cases ht : t[i]? with
    | none => rfl
    | some b => rw [hs, ht] at hi; simp at hi
  | some a =>
    cases ht : t[i]? with
    | none => rw [hs, ht] at hi; simp at hi
    | some b =>
      rw [hs, ht] at hi
      simp at hi
      by_cases e : j = i
      · simp [e, hg a b hi]
      · simp [e, hi]
theorem bare_eq {y z : Sl} (h : y.bare = z.bare) : y.c = z.c ∧ y.i = z.i ∧ y.a = z.a ∧ y.u = z.u := by
  unfold Sl.bare at h
  injection h with h1 h2 h3 h4
  exact ⟨h1, h2, h3, h4⟩
theorem Alike.alloc (a : Alike x y) (z : Int) : (x.alloc z).1 = (y.alloc z).1 ∧ Alike (x.alloc z).2 (y.alloc z).2 := by
  unfold ASt.alloc
  rw [a.l]
  split
  · exact ⟨rfl, a.l, a.f, a.nx, a.fa, a.s⟩
  · rename_i c hc
    unfold ASt.take
    rw [a.last c, a.f, a.nx, a.l]
    split
    · rename_i p hp
      simp only
      have hm : (x.s.modify (y.f.getD p 0) Sl.again).map Sl.bare = (y.s.modify (y.f.getD p 0) Sl.again).map Sl.bare := bare_modify (fun y z e => by
        obtain ⟨e1, e2, e3, _⟩ := bare_eq e
        simp [Sl.again, Sl.bare, e1, e2, e3]) a.s
      refine ⟨?_, rfl, rfl, rfl, a.fa, hm⟩
      have h1 : ∀ i : Nat, (x.s.modify (y.f.getD p 0) Sl.again)[i]?.map Sl.h = (y.s.modify (y.f.getD p 0) Sl.again)[i]?.map Sl.h := fun i => by
        have := congrArg (fun l : List Sl => l[i]?) hm
        simp only [List.getElem?_map] at this
        rw [bare_fun (g := Sl.h) (fun _ => rfl), bare_fun (g := Sl.h) (fun _ => rfl), this]
      rw [h1]
    · split
      · exact ⟨rfl, a.l, a.f, a.nx, a.fa, a.s⟩
      · exact ⟨rfl, rfl, rfl, rfl, a.fa, by simp [a.s]⟩
theorem Alike.free (a : Alike x y) (h : Hd) : (x.free h).1 = (y.free h).1 ∧ Alike (x.free h).2 (y.free h).2 := by
  unfold ASt.free
  rw [a.find]
  split
  · exact ⟨rfl, a.l, a.f, a.nx, by simp [ASt.fault, a.fa], a.s⟩
  · exact ⟨rfl, a.l, by rw [a.f], a.nx, a.fa, bare_modify (fun y z e => by
      obtain ⟨e1, e2, e3, _⟩ := bare_eq e
      simp [Sl.bare, e1, e2, e3]) a.s⟩
/-- A slot that is in use is written. -/
theorem alike_write (hf : ∃ j, x.find h = some j) (b : List Int) : Alike (x.write h b).2 x := by
  obtain ⟨j, hf⟩ := hf
  unfold ASt.write
  rw [hf]
  simp only
  split
  · exact ⟨rfl, rfl, rfl, rfl, rfl⟩
  · refine ⟨rfl, rfl, rfl, rfl, ?_⟩
    apply List.ext_getElem?
    intro i
    simp only [List.getElem?_map, List.getElem?_modify]
    cases x.s[i]? with
    | none => rfl
    | some y => by_cases e : j = i <;> simp [e, Sl.bare]
theorem alike_tick (x : ASt) : Alike x.tick x := ⟨rfl, rfl, rfl, rfl, rfl⟩
theorem countP_bare {s t : List Sl} {p : Sl → Bool} (hp : ∀ y : Sl, p y.bare = p y) (h : s.map Sl.bare = t.map Sl.bare) : s.countP p = t.countP p := by
  have : ∀ l : List Sl, (l.map Sl.bare).countP p = l.countP p := fun l => by rw [List.countP_map]; congr 1; funext a; exact hp a
  rw [← this s, ← this t, h]
theorem Alike.live (a : Alike x y) (n : Nat) : liveL n x.s = liveL n y.s := by
  unfold liveL
  congr 1; funext c
  unfold liveN
  rw [countP_bare (fun _ => rfl) a.s]
theorem Alike.bytes (a : Alike x y) : bytesN x.L x.s = bytesN y.L y.s := by
  rw [a.l]
  unfold bytesN
  have : ∀ l : List Sl, ((l.map Sl.bare).map fun y' : Sl => if y'.u then (y.L.getD y'.c (0, 0)).1 else 0) = l.map fun y' : Sl => if y'.u then (y.L.getD y'.c (0, 0)).1 else 0 := fun l => by rw [List.map_map]; rfl
  rw [← this, ← this y.s, a.s]
end
section
variable {q : PSt} {x y : ASt} {s : ByteArray} {id : Int}
/-- The pool over either arena says the same. -/
theorem intern_alike (a : Alike x y) (s : ByteArray) : q.intern x s = q.intern y s := by
  unfold PSt.intern
  rw [(a.alloc s.size).1]
theorem Alike.intern (a : Alike x y) (hG : GoodA x) (q : PSt) (s : ByteArray) : Alike (q.inP x s) (q.inR y s) := by
  by_cases ha : q.asks s
  · rw [inR_is ha]
    have h1 := (a.alloc s.size).2
    by_cases h0 : (x.alloc s.size).1.2 = 0
    · rw [inP_yes ha h0]
      obtain ⟨j, w, T⟩ := took hG s.size h0
      exact (alike_write ⟨j, by rw [← T.h]; exact (hG.alloc s.size).find_at T.at_ T.u⟩ _).trans h1
    · rw [inP_full ha h0]; exact h1
  · rw [inP_not ha, inR_not ha]; exact a
theorem Alike.text (a : Alike x y) (hG : GoodA x) (H : Lnk q x) (id : Int) : Alike (q.teP x id) y := by
  unfold PSt.teP
  split
  · exact a
  · rename_i p hp
    obtain ⟨_, _, hy, hu, _⟩ := at_some hp
    rw [H.read hG hy hu]
    exact (alike_tick x).trans a
theorem Alike.release (a : Alike x y) (hG : GoodA x) (H : Lnk q x) (id : Int) : Alike (q.reP x id) (q.reR y id) := by
  unfold PSt.reP PSt.reR
  cases hp : q.at id with
  | none => exact a
  | some p =>
    obtain ⟨_, _, hy, hu, _⟩ := at_some hp
    simp only
    split
    · rw [H.read hG hy hu]
      exact (((alike_tick x).trans a).free _).2
    · exact a
theorem GoodA.inP (h : GoodA x) (q : PSt) (s : ByteArray) : GoodA (q.inP x s) := by
  unfold PSt.inP
  split
  · split
    · exact (h.alloc _).write _ (sB_bytes s)
    · exact h.alloc _
  · exact h
theorem inP_t (q : PSt) (x : ASt) (s : ByteArray) : (q.inP x s).t ≤ x.t + 2 ∧ (q.inR x s).t ≤ x.t + 1 := by
  by_cases ha : q.asks s
  · rw [inR_is ha, good_t]
    by_cases h0 : (x.alloc s.size).1.2 = 0
    · rw [inP_yes ha h0, write_t, good_t]; omega
    · rw [inP_full ha h0, good_t]; omega
  · rw [inP_not ha, inR_not ha]; omega
theorem reP_t (q : PSt) (x : ASt) (id : Int) : (q.reP x id).t ≤ x.t + 2 ∧ (q.reR x id).t ≤ x.t + 1 ∧ (q.teP x id).t ≤ x.t + 1 := by
  unfold PSt.reP PSt.reR PSt.teP
  cases q.at id with
  | none => simp only; omega
  | some p =>
    simp only
    refine ⟨?_, ?_, ?_⟩
    · split
      · rw [free_t, read_t]; omega
      · omega
    · split
      · rw [free_t]; omega
      · omega
    · rw [read_t]; omega
end
end Go.Proofs.Ytenchaifnfgijaa
