/- Words laid together in one text. Conditions: none beyond those typed. -/
import Derived.Test.YtenchaifnfgijaaAm
import Derived.Test.YtenchaifnfgijaaAs
import Derived.Test.YtenchaifnfgijaaPw
/- What an allocation, a freeing and a writing do to the slots, as plain data: for the statements about handles that are held. Conditions: none beyond those typed. -/
namespace Go.Proofs.Ytenchaifnfgijaa
set_option linter.unusedVariables false
set_option linter.unusedSimpArgs false

/-- What an allocation has done: slot j is in use now, and was not; all others are as they were. -/
structure Took (x x' : ASt) (z : Int) (h : Hd) (j : Nat) (y : Sl) : Prop where
  at_ : x'.s[j]? = some y
  h : y.h = h
  u : y.u = true
  fit : fitP x.L z = some y.c
  rest : ∀ i, i ≠ j → x'.s[i]? = x.s[i]?
  was : ∀ y0, x.s[j]? = some y0 → y0.u = false ∧ y0.c = y.c
  len : x.s.length ≤ x'.s.length ∧ x'.s.length ≤ x.s.length + 1
  l : x'.L = x.L
  fa : x'.fa = x.fa
theorem took {x : ASt} (hG : GoodA x) (z : Int) (h0 : (x.alloc z).1.2 = 0) : ∃ j y, Took x (x.alloc z).2 z (x.alloc z).1.1 j y := by
  unfold ASt.alloc at h0 ⊢
  split
  · rename_i hf
    rw [hf] at h0; simp at h0
  · rename_i c hc
    rw [hc] at h0
    simp only at h0
    unfold ASt.take at h0 ⊢
    split
    · rename_i p hp
      obtain ⟨j, y, hf, hs, hyc⟩ := lastAt_some hp
      have hy0 : y.u = false := by
        obtain ⟨z, hz, hu⟩ := (hG.fu j).1 (List.mem_of_getElem? hf)
        rw [hs] at hz; injection hz with hz; subst hz; exact hu
      refine ⟨j, Sl.again y, ?_, ?_, rfl, by rw [hc]; simp [Sl.again, hyc], fun i hi => ?_, fun y0 h => ?_, ?_, rfl, rfl⟩
      · simp only [getD_at hf, List.getElem?_modify, hs]; simp
      · simp only [getD_at hf, List.getElem?_modify, hs]; simp
      · have hne : ¬ j = i := fun e => hi e.symm
        simp only [getD_at hf, List.getElem?_modify]; simp [hne]
      · rw [hs] at h; injection h with h; subst h; exact ⟨hy0, by simp [Sl.again]⟩
      · simp
    · rename_i hn
      rw [hn] at h0
      split
      · rename_i hfull
        rw [if_pos hfull] at h0; simp at h0
      · refine ⟨x.s.length, ⟨c, x.nx.getD c 0, 1, true, []⟩, by simp, rfl, rfl, hc, fun i hi => ?_, fun y0 h => ?_, by simp, rfl, rfl⟩
        · simp only [List.getElem?_append]
          split
          · rfl
          · rename_i hlt
            rw [List.getElem?_eq_none (by simp; omega), List.getElem?_eq_none (by omega)]
        · have := (List.getElem?_eq_some_iff.1 h).1; omega
theorem h_eq {y : Sl} {h : Hd} (e : y.h = h) : ((y.c : Nat) : Int) = h.1 ∧ ((y.i : Nat) : Int) = h.2.1 ∧ ((y.a : Nat) : Int) = h.2.2 := by subst e; exact ⟨rfl, rfl, rfl⟩
/-- The handles that are held: each has its slot, with its byte; no handle twice. -/
structure Held (x : ASt) (hl : List Hd) : Prop where
  slot : ∀ h ∈ hl, ∃ (i : Nat) (y : Sl), x.s[i]? = some y ∧ y.u = true ∧ y.h = h ∧ y.b = [h.2.2 % 256]
  nd : hl.Nodup
section
variable {x x' : ASt} {hl : List Hd} {z : Int} {h : Hd} {j : Nat} {y : Sl}
theorem Held.nil (x : ASt) : Held x [] := ⟨fun h hh => by simp at hh, List.nodup_nil⟩
theorem Held.tick (H : Held x hl) : Held x.tick hl := ⟨H.slot, H.nd⟩
/-- A slot that was just taken is none of those that are held. -/
theorem Held.apart (hG' : GoodA x') (T : Took x x' z h j y) (H : Held x hl) : ∀ h' ∈ hl, ¬ (h'.1 = h.1 ∧ h'.2.1 = h.2.1) := fun h' hh ⟨e1, e2⟩ => by
  obtain ⟨i, y1, hi, hu, he, _⟩ := H.slot h' hh
  have hij : i ≠ j := fun e => by subst e; rw [(T.was y1 hi).1] at hu; cases hu
  have hi' : x'.s[i]? = some y1 := (T.rest i hij).trans hi
  obtain ⟨a1, a2, _⟩ := h_eq he
  obtain ⟨b1, b2, _⟩ := h_eq T.h
  exact hij (hG'.at_one hi' T.at_ (by omega) (by omega))
theorem Held.rest (T : Took x x' z h j y) (H : Held x hl) : Held x' hl := ⟨fun h' hh => by
  obtain ⟨i, y1, hi, hu, he, hb⟩ := H.slot h' hh
  have hij : i ≠ j := fun e => by subst e; rw [(T.was y1 hi).1] at hu; cases hu
  exact ⟨i, y1, (T.rest i hij).trans hi, hu, he, hb⟩, H.nd⟩
/-- Its byte is written. -/
theorem Held.wrote (hG : GoodA x) (hj : x.s[j]? = some y) (hu : y.u = true) (hh : y.h = h) (H : Held x hl) (hn : ∀ h' ∈ hl, ¬ (h'.1 = h.1 ∧ h'.2.1 = h.2.1)) :
    (x.write h [h.2.2 % 256]).1 = 0 ∧ Held (x.write h [h.2.2 % 256]).2 (hl ++ [h]) ∧ (x.write h [h.2.2 % 256]).2.fa = x.fa ∧ (x.write h [h.2.2 % 256]).2.L = x.L := by
  have hf : x.find h = some j := by rw [← hh]; exact hG.find_at hj hu
  have hy := hG.sl y (List.mem_of_getElem? hj)
  have hL : x.L[y.c]? = some x.L[y.c] := List.getElem?_eq_getElem hy.1
  have hok := hG.l.ok _ (List.getElem_mem hy.1)
  obtain ⟨a1, _, _⟩ := h_eq hh
  have hc : h.1.toNat = y.c := by omega
  unfold ASt.write
  rw [hf]
  simp only
  rw [hc, getD_at hL, if_neg (by simp; omega)]
  refine ⟨rfl, ⟨fun h' hm => ?_, ?_⟩, rfl, rfl⟩
  · rcases List.mem_append.1 hm with hm | hm
    · obtain ⟨i, y1, hi, hu1, he, hb⟩ := H.slot h' hm
      have hij : ¬ j = i := fun e => by
        subst e
        rw [hj] at hi; injection hi with hi; subst hi
        exact hn h' hm (by rw [← he, ← hh]; exact ⟨rfl, rfl⟩)
      exact ⟨i, y1, by simp [List.getElem?_modify, hij, hi], hu1, he, hb⟩
    · rw [List.mem_singleton.1 hm]
      exact ⟨j, { y with b := [h.2.2 % 256] }, by simp [List.getElem?_modify, hj], hu, hh, rfl⟩
  · rw [List.nodup_append]
    exact ⟨H.nd, by simp, fun a ha b hb e => by rw [List.mem_singleton.1 hb] at e; subst e; exact hn a ha ⟨rfl, rfl⟩⟩
/-- One that is held is freed. -/
theorem Held.freed (hG : GoodA x) {hl1 hl2 : List Hd} (H : Held x (hl1 ++ h :: hl2)) : (x.free h).1 = 0 ∧ Held (x.free h).2 (hl1 ++ hl2) ∧ (x.free h).2.fa = x.fa ∧ (x.free h).2.L = x.L := by
  obtain ⟨j, y, hj, hu, hh, hb⟩ := H.slot h (by simp)
  have hf : x.find h = some j := by rw [← hh]; exact hG.find_at hj hu
  have hnd := H.nd
  rw [List.nodup_append, List.nodup_cons] at hnd
  obtain ⟨n1, ⟨n2, n3⟩, n4⟩ := hnd
  have hne : ∀ h' ∈ hl1 ++ hl2, h' ≠ h := fun h' hm e => by
    subst e
    rcases List.mem_append.1 hm with hm | hm
    · exact n4 h' hm h' (by simp) rfl
    · exact n2 hm
  unfold ASt.free
  rw [hf]
  refine ⟨rfl, ⟨fun h' hm => ?_, ?_⟩, rfl, rfl⟩
  · obtain ⟨i, y1, hi, hu1, he, hb1⟩ := H.slot h' (by rcases List.mem_append.1 hm with hm | hm <;> simp [hm])
    have hij : ¬ j = i := fun e => by
      subst e
      rw [hj] at hi; injection hi with hi; subst hi
      exact hne h' hm (he.symm.trans hh)
    exact ⟨i, y1, by simp [List.getElem?_modify, hij, hi], hu1, he, hb1⟩
  · rw [List.nodup_append]
    exact ⟨n1, n3, fun a ha b hb => n4 a ha b (by simp [hb])⟩
/-- One that is held is read. -/
theorem Held.read (hG : GoodA x) (H : Held x hl) (hm : h ∈ hl) : x.read h = (([h.2.2 % 256], 0), x.tick) := by
  obtain ⟨j, y, hj, hu, hh, hb⟩ := H.slot h hm
  have hf : x.find h = some j := by rw [← hh]; exact hG.find_at hj hu
  unfold ASt.read
  rw [hf]
  simp [hj, hb]
end
end Go.Proofs.Ytenchaifnfgijaa

/- The slots in use, as plain data: what an allocation and a freeing do to their numbers. Conditions: none beyond those typed. -/
namespace Go.Proofs.Ytenchaifnfgijaa
set_option linter.unusedVariables false
set_option linter.unusedSimpArgs false

/-- The handles that are held: each has its slot, no handle twice. -/
structure HeldU (x : ASt) (hl : List Hd) : Prop where
  slot : ∀ h ∈ hl, ∃ (i : Nat) (y : Sl), x.s[i]? = some y ∧ y.u = true ∧ y.h = h
  nd : hl.Nodup
theorem count_at {s s' : List Sl} {j : Nat} {y : Sl} (p : Sl → Bool) (h1 : s'[j]? = some y) (h2 : ∀ i, i ≠ j → s'[i]? = s[i]?) (h3 : ∀ y0, s[j]? = some y0 → p y0 = false) (h4 : s.length ≤ s'.length ∧ s'.length ≤ s.length + 1) :
    s'.countP p = s.countP p + if p y then 1 else 0 := by
  by_cases hj : j < s.length
  · have e : s' = s.set j y := by
      apply List.ext_getElem?
      intro i
      rw [List.getElem?_set]
      by_cases hi : j = i
      · subst hi; rw [if_pos rfl, if_pos hj]; exact h1
      · rw [if_neg hi]; exact h2 i (fun e => hi e.symm)
    have h5 := h3 _ (List.getElem?_eq_getElem hj)
    rw [e, List.countP_set hj, h5]; simp
  · have hj2 := (List.getElem?_eq_some_iff.1 h1).1
    have e : s' = s ++ [y] := by
      apply List.ext_getElem?
      intro i
      rw [List.getElem?_append]
      by_cases hi : i < s.length
      · rw [if_pos hi]; exact h2 i (by omega)
      · rw [if_neg hi]
        by_cases hi2 : i = j
        · subst hi2; rw [h1, show i - s.length = 0 by omega]; rfl
        · rw [h2 i hi2, List.getElem?_eq_none (by omega), List.getElem?_eq_none (by simp; omega)]
    rw [e, List.countP_append]; simp [List.countP_cons]
section
variable {x x' : ASt} {hl : List Hd} {z : Int} {h : Hd} {j n : Nat} {y : Sl}
theorem HeldU.nil (x : ASt) : HeldU x [] := ⟨fun h hh => by simp at hh, List.nodup_nil⟩
theorem HeldU.tick (H : HeldU x hl) : HeldU x.tick hl := ⟨H.slot, H.nd⟩
theorem HeldU.took (hG' : GoodA x') (T : Took x x' z h j y) (H : HeldU x hl) : HeldU x' (hl ++ [h]) := by
  have hne : ∀ h' ∈ hl, h' ≠ h := fun h' hh e => by
    subst e
    obtain ⟨i, y1, hi, hu, he⟩ := H.slot h' hh
    have hij : i ≠ j := fun e => by subst e; rw [(T.was y1 hi).1] at hu; cases hu
    have hi' : x'.s[i]? = some y1 := (T.rest i hij).trans hi
    obtain ⟨a1, a2, _⟩ := h_eq he
    obtain ⟨b1, b2, _⟩ := h_eq T.h
    exact hij (hG'.at_one hi' T.at_ (by omega) (by omega))
  refine ⟨fun h' hh => ?_, ?_⟩
  · rcases List.mem_append.1 hh with hh | hh
    · obtain ⟨i, y1, hi, hu, he⟩ := H.slot h' hh
      have hij : i ≠ j := fun e => by subst e; rw [(T.was y1 hi).1] at hu; cases hu
      exact ⟨i, y1, (T.rest i hij).trans hi, hu, he⟩
    · rw [List.mem_singleton.1 hh]; exact ⟨j, y, T.at_, T.u, T.h⟩
  · rw [List.nodup_append]
    exact ⟨H.nd, by simp, fun a ha b hb e => by rw [List.mem_singleton.1 hb] at e; exact hne a ha e⟩
theorem liveN_took (T : Took x x' z h j y) (c : Nat) : liveN x'.s c = liveN x.s c + if y.c = c then 1 else 0 := by
  unfold liveN
  rw [count_at (fun y => y.u && decide (y.c = c)) T.at_ T.rest (fun y0 hy => by simp [(T.was y0 hy).1]) T.len]
  simp [T.u]
theorem live_took (T : Took x x' z h j y) : liveL n x'.s = (liveL n x.s).set y.c (((liveN x.s y.c : Nat) : Int) + 1) := by
  apply List.ext_getElem?
  intro c
  rw [List.getElem?_set]
  by_cases hc : c < n
  · rw [liveL_at hc, liveL_at hc, liveL_len, liveN_took T]
    by_cases e : y.c = c
    · subst e; simp [hc]
    · simp [e]
  · have h1 : (liveL n x'.s)[c]? = none := List.getElem?_eq_none (by rw [liveL_len]; omega)
    have h2 : (liveL n x.s)[c]? = none := List.getElem?_eq_none (by rw [liveL_len]; omega)
    rw [h1, h2, liveL_len]
    by_cases e : y.c = c
    · rw [if_pos e, if_neg (by omega)]
    · rw [if_neg e]
/-- The first one that is held is freed. -/
theorem HeldU.freed (hG : GoodA x) (H : HeldU x (h :: hl)) : ∃ c : Nat, h.1 = (c : Int) ∧ c < x.L.length ∧ 1 ≤ liveN x.s c ∧ (x.free h).1 = 0 ∧ HeldU (x.free h).2 hl ∧ (x.free h).2.L = x.L ∧ ∀ n, liveL n (x.free h).2.s = (liveL n x.s).set c (((liveN x.s c : Nat) : Int) - 1) := by
  obtain ⟨j, y, hj, hu, hh⟩ := H.slot h (by simp)
  have hf : x.find h = some j := by rw [← hh]; exact hG.find_at hj hu
  have hnd := List.nodup_cons.1 H.nd
  obtain ⟨a1, _, _⟩ := h_eq hh
  have hcount : ∀ c, liveN (x.free h).2.s c = liveN x.s c - if y.c = c then 1 else 0 := fun c => by
    unfold ASt.free
    rw [hf]
    simp only
    have hjl := (List.getElem?_eq_some_iff.1 hj).1
    have hje := (List.getElem?_eq_some_iff.1 hj).2
    have e : x.s.modify j (fun y => { y with u := false }) = x.s.set j { y with u := false } := by
      apply List.ext_getElem?
      intro i
      rw [List.getElem?_set, List.getElem?_modify]
      by_cases hi : j = i
      · subst hi; simp [hj, hjl, hje]
      · simp [hi]
    rw [e]
    unfold liveN
    rw [List.countP_set hjl, hje]
    simp [hu]
  have hpos : 1 ≤ liveN x.s y.c := by
    unfold liveN
    exact List.countP_pos_iff.2 ⟨y, List.mem_of_getElem? hj, by simp [hu]⟩
  refine ⟨y.c, a1.symm, (hG.sl y (List.mem_of_getElem? hj)).1, hpos, ?_, ?_, ?_, fun n => ?_⟩
  · unfold ASt.free; rw [hf]
  · unfold ASt.free
    rw [hf]
    refine ⟨fun h' hm => ?_, hnd.2⟩
    obtain ⟨i, y1, hi, hu1, he⟩ := H.slot h' (by simp [hm])
    have hij : ¬ j = i := fun e => by
      subst e
      rw [hj] at hi; injection hi with hi; subst hi
      rw [he] at hh; subst hh; exact hnd.1 hm
    exact ⟨i, y1, by simp [List.getElem?_modify, hij, hi], hu1, he⟩
  · unfold ASt.free; rw [hf]
  · apply List.ext_getElem?
    intro c
    rw [List.getElem?_set]
    by_cases hc : c < n
    · rw [liveL_at hc, liveL_at hc, liveL_len, hcount]
      by_cases e : y.c = c
      · subst e; simp [hc]; omega
      · simp [e]
    · have h1 : (liveL n (x.free h).2.s)[c]? = none := List.getElem?_eq_none (by rw [liveL_len]; omega)
      have h2 : (liveL n x.s)[c]? = none := List.getElem?_eq_none (by rw [liveL_len]; omega)
      rw [h1, h2, liveL_len]
      by_cases e : y.c = c
      · rw [if_pos e, if_neg (by omega)]
      · rw [if_neg e]
/-- No class has more slots in use than it has. -/
theorem GoodA.cap (hG : GoodA x) {c : Nat} (hc : c < x.L.length) : ((liveN x.s c : Nat) : Int) ≤ (x.L.getD c (0, 0)).2 := by
  have hcn : c < x.nx.length := by rw [hG.nx]; exact hc
  have hg : x.nx[c]? = some x.nx[c] := List.getElem?_eq_getElem hcn
  have h1 := hG.cnt c _ hg
  have h2 := idx_nodup (c := c) hG (fun _ => true)
  have h3 := nodup_le x.nx[c] _ h2 (fun i hi => by
    obtain ⟨y, hy, rfl⟩ := List.mem_map.1 hi
    obtain ⟨hy, h4⟩ := List.mem_filter.1 hy
    simp at h4
    have := (hG.sl y hy).2.1
    rw [h4, getD_at hg] at this
    exact this)
  rw [List.length_map] at h3
  have h5 : liveN x.s c ≤ (x.s.filter fun y => true && decide (y.c = c)).length := by
    rw [← List.countP_eq_length_filter]
    unfold liveN
    refine List.countP_mono_left fun y _ hy => ?_
    simp at hy ⊢
    exact hy.2
  omega
end
end Go.Proofs.Ytenchaifnfgijaa
